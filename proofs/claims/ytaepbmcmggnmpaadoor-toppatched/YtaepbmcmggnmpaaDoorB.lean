/-
  The contract of page.bodyOf, walked.
-/
import Derived.Test.YtaepbmcmggnmpaaDoorA
namespace Go.Proofs.YtaepbmcmggnmpaaDoor
open Go.RowKit
set_option maxRecDepth 100000

theorem kept_cell {b k : Nat} {w w' : World} {cs : Array Value} {t : TypeId} {fr : Nat × Nat} (h : Lib.OthersKept 5 (some b) w w') (hk : w.heap[k]? = some (.cells cs t fr)) (hb : k ≠ b) (ht : t ≠ 5) : w'.heap[k]? = some (.cells cs t fr) :=
  h k _ hk (by simpa using hb) (fun c fz e => ht (by injection e))
theorem Bd.lt {w : World} {B b : Nat} {l : List UInt8} (h : Bd w B b l) : b < w.heap.size := h.elim (fun h => h.lt) (fun h => h.lt)
theorem Bd.dr {w : World} {B b : Nat} {l : List UInt8} (h : Bd w B b l) : Bd w.drew B b l := h
/-- The cells of a known block. -/
theorem cells3_of {W : World} {g : Nat} {c0 c1 c2 : Value} {t : TypeId} (h : W.heap[g]? = some (.cells #[c0, c1, c2] t (0, 0))) : W.cell? ⟨g, 0, none⟩ = some c0 ∧ W.cell? ⟨g, 1, none⟩ = some c1 ∧ W.cell? ⟨g, 2, none⟩ = some c2 :=
  ⟨by rw [Lib.cell_of_heap h]; rfl, by rw [Lib.cell_of_heap h]; rfl, by rw [Lib.cell_of_heap h]; rfl⟩
theorem cells6_of {W : World} {g : Nat} {c0 c1 c2 c3 c4 c5 : Value} {t : TypeId} (h : W.heap[g]? = some (.cells #[c0, c1, c2, c3, c4, c5] t (0, 0))) :
    W.cell? ⟨g, 0, none⟩ = some c0 ∧ W.cell? ⟨g, 1, none⟩ = some c1 ∧ W.cell? ⟨g, 2, none⟩ = some c2 ∧ W.cell? ⟨g, 3, none⟩ = some c3 ∧ W.cell? ⟨g, 4, none⟩ = some c4 ∧ W.cell? ⟨g, 5, none⟩ = some c5 :=
  ⟨by rw [Lib.cell_of_heap h]; rfl, by rw [Lib.cell_of_heap h]; rfl, by rw [Lib.cell_of_heap h]; rfl, by rw [Lib.cell_of_heap h]; rfl, by rw [Lib.cell_of_heap h]; rfl, by rw [Lib.cell_of_heap h]; rfl⟩
theorem len_any (B b : Nat) (l : List UInt8) (w : World) (h : Bd w B b l) : Calls Tryd.prog 71 #[.pointer (some ⟨b, 0, none⟩)] w fun e w' => e = .returned (.int .i64 (l.length : Int)) ∧ w = w' := by
  obtain ⟨p, hB, v, hbk, hown, hne⟩ : ∃ p, Lib.BuilderAtF 120 5 B b p (Lib.byteCells l) w := by
    rcases h with h | h
    · exact ⟨_, h⟩
    · exact ⟨_, h⟩
  rw [Lib.byteCells_length] at hown
  obtain ⟨ao, cap, rfl⟩ : ∃ ao cap, v = .slice ao l.length cap := by
    rcases hown.2 with ⟨hv, h0⟩ | ⟨g, cap, cur, fz, hv, _⟩
    · exact ⟨none, 0, by rw [hv, h0]⟩
    · exact ⟨_, _, hv⟩
  have c1 : w.cell? ⟨b, 1, none⟩ = some (.slice ao l.length cap) := by rw [Lib.cell_of_heap hbk]; rfl
  clear hown
  go_enter Tryd.func71, Tryd.ntmps71
  go_wp2
  go_ret
  exact ⟨rfl, rfl⟩
theorem make_zeros (w : World) (n : Nat) (hn : n ≤ 1000) : (Instr.makeSlice 54 (.int .i64 (n : Int)) (.int .i64 (n : Int))).run Tryd.prog w =
    .ok (.slice (some ⟨w.heap.size, 0, none⟩) n n) (w.alloc (.cells (madeCells #[.int .u8 0] n) 5)) := by
  obtain ⟨i0, hi, hz0, hz1, hz2⟩ := info_parts info5
  have h := run_make (P := Tryd.prog) w 54 5 i0 (.int .u8 0) Tryd.underlying54 hi hz0 .i64 .i64 (n : Int) (n : Int) (by omega) (by omega) (by rw [hz2]; omega) (by omega)
  rw [h, hz1]
  simp [Value.cells]
theorem conv_zeros (W : World) (n : Nat) : (convert 54 9 (.slice (some ⟨W.heap.size, 0, none⟩) n n)).run Tryd.prog (W.alloc (.cells (madeCells #[.int .u8 0] n) 5)) =
    .ok (.string (M.bs (List.replicate n 0))) (W.alloc (.cells (madeCells #[.int .u8 0] n) 5)) := by
  have e : M.bs (List.replicate n 0) = strOfNums (List.replicate n 0) := by rw [M.nums_bs, List.map_replicate]; rfl
  rw [e]
  refine run_convert_bytes_arg (P := Tryd.prog) _ 54 5 Tryd.underlying54 Tryd.underlying5 W.heap.size 0 n n _ (by simp) ?_ 9 Tryd.underlying9
  intro i hi
  rw [World.cell?_alloc_at (hn := rfl), Nat.zero_add]
  simp [madeCells, hi, List.getD, Nat.mod_one]

/-- 'WriteString' of a builder that was made in the world w0. -/
theorem ws (w0 : World) (l t : List UInt8) (n : Nat) (hn : w0.heap.size = n) (W : World) (h : Bd W n n l) (hb : Bel w0 W) (hlen : l.length + t.length ≤ 100000000) :
    Calls Tryd.prog 67 #[.pointer (some ⟨n, 0, none⟩), .string (M.bs t)] W fun e w' => e = .returned (.tuple #[.int .i64 (t.length : Int), .nilIface]) ∧ Bd w' n n (l ++ t) ∧ Bel w0 w' ∧ Lib.OthersKept 5 (some n) W w' := by
  subst hn
  refine (writeString_any w0.heap.size w0.heap.size l t W h hlen hb.size).mono ?_
  rintro e w' ⟨rfl, h1, h2, h3⟩
  exact ⟨rfl, h1, hb.trans h2, h3⟩
set_option maxRecDepth 100000 in
set_option maxHeartbeats 4000000 in
theorem bodyOf_some (p : M.Pg) (a : Option Addr) (cap : Nat) (w : World) (hi : M.inB p = true) (hf : 0 ≤ M.free p) (hv : p.es = [] ∨ ∃ b off, a = some ⟨b, off, none⟩ ∧ Row3 w b off p.es) :
    Calls Tryd.prog 42 #[pv p (.slice a p.es.length cap)] w fun e w' => e = .returned (.string (M.bs (M.body p))) ∧ Bel w w' := by
  obtain ⟨p1, p2, p3, p4, p5, p6⟩ := M.inB_parts hi
  have hcnt := M.es_count hf
  obtain ⟨l1, l2⟩ := M.head_length hi hf
  have hpre := M.pre_length hi hf
  have HBody : Hid (M.body p = M.pre p ++ List.replicate (496 - (M.pre p).length) 0) := rfl
  have HPre : Hid (M.pre p = M.head1 p ++ M.head2 p ++ p.es.flatMap M.encE) := rfl
  have HH1 : Hid (M.head1 p = M.put p.kind 1 ++ M.put p.level 1 ++ M.put p.right 2) := rfl
  have HH2 : Hid (M.head2 p = M.put (p.high.length : Int) 1 ++ M.put (p.es.length : Int) 2 ++ p.high) := rfl
  generalize M.body p = BD at *
  generalize M.pre p = PR at *
  generalize M.head1 p = H1 at *
  generalize M.head2 p = H2 at *
  clear hi hf
  obtain ⟨lsn, kind, level, right, high, es⟩ := p
  simp only at *
  have zh : (M.bs high).size = high.length := M.bs_size high
  have k1 := M.put_1 kind (by omega) (by omega)
  have k2 := M.put_1 level (by omega) (by omega)
  have k3 := M.put_2 right (by omega) (by omega)
  have k4 := M.put_1 (high.length : Int) (by omega) (by omega)
  have k5 := M.put_2 (es.length : Int) (by omega) (by omega)
  have z1 : (M.bs (M.put kind 1)).size = 1 := by rw [M.bs_size, k1]
  have z2 : (M.bs (M.put level 1)).size = 1 := by rw [M.bs_size, k2]
  have z3 : (M.bs (M.put right 2)).size = 2 := by rw [M.bs_size, k3]
  have z4 : (M.bs (M.put (high.length : Int) 1)).size = 1 := by rw [M.bs_size, k4]
  have z5 : (M.bs (M.put (es.length : Int) 2)).size = 2 := by rw [M.bs_size, k5]
  have z12 : (M.bs (M.put kind 1) ++ M.bs (M.put level 1)).size = 2 := by rw [M.bs_append, M.bs_size, List.length_append, k1, k2]
  have z45 : (M.bs (M.put (high.length : Int) 1) ++ M.bs (M.put (es.length : Int) 2)).size = 3 := by rw [M.bs_append, M.bs_size, List.length_append, k4, k5]
  have E1 : M.bs (M.put kind 1) ++ M.bs (M.put level 1) ++ M.bs (M.put right 2) = M.bs H1 := by rw [M.bs_append, M.bs_append, HH1.out]
  have E2 : M.bs (M.put (high.length : Int) 1) ++ M.bs (M.put (es.length : Int) 2) ++ M.bs high = M.bs H2 := by rw [M.bs_append, M.bs_append, HH2.out]
  have hq3 : ¬ 9223372036854775807 < 3 + high.length := by omega
  clear k1 k2 k3 k4 k5
  go_enter Tryd.func42, Tryd.ntmps42
  go_wp2_with fail
  have HC : ∀ W, Bel (w.alloc (.cells #[.int .i64 lsn, .int .i64 kind, .int .i64 level, .int .i64 right, .string (M.bs high), .slice a es.length cap] 29)) W →
      W.cell? ⟨w.heap.size, 1, none⟩ = some (.int .i64 kind) ∧ W.cell? ⟨w.heap.size, 2, none⟩ = some (.int .i64 level) ∧ W.cell? ⟨w.heap.size, 3, none⟩ = some (.int .i64 right) ∧ W.cell? ⟨w.heap.size, 4, none⟩ = some (.string (M.bs high)) ∧ W.cell? ⟨w.heap.size, 5, none⟩ = some (.slice a es.length cap) := fun W hW => by
    have hk : W.heap[w.heap.size]? = some (.cells #[.int .i64 lsn, .int .i64 kind, .int .i64 level, .int .i64 right, .string (M.bs high), .slice a es.length cap] 29 (0, 0)) := (hW.block _ (by simp)).trans (heap_alloc_new w _)
    exact (cells6_of hk).2
  have hbd := Bd.new (w.alloc (.cells #[.int .i64 lsn, .int .i64 kind, .int .i64 level, .int .i64 right, .string (M.bs high), .slice a es.length cap] 29))
  have hz0 : (w.alloc (.cells #[.int .i64 lsn, .int .i64 kind, .int .i64 level, .int .i64 right, .string (M.bs high), .slice a es.length cap] 29)).heap.size = w.heap.size + 1 := by simp
  have hw0 : Bel w (w.alloc (.cells #[.int .i64 lsn, .int .i64 kind, .int .i64 level, .int .i64 right, .string (M.bs high), .slice a es.length cap] 29)) := Bel.al (Below.refl _ _) _
  have hb0 : Bel (w.alloc (.cells #[.int .i64 lsn, .int .i64 kind, .int .i64 level, .int .i64 right, .string (M.bs high), .slice a es.length cap] 29)) ((w.alloc (.cells #[.int .i64 lsn, .int .i64 kind, .int .i64 level, .int .i64 right, .string (M.bs high), .slice a es.length cap] 29)).alloc (.cells #[.pointer none, .slice none 0 0] 120)) := Bel.al (Below.refl _ _) _
  rw [hz0] at hbd
  generalize (w.alloc (.cells #[.int .i64 lsn, .int .i64 kind, .int .i64 level, .int .i64 right, .string (M.bs high), .slice a es.length cap] 29)) = w0 at *
  generalize w0.alloc (.cells #[.pointer none, .slice none 0 0] 120) = W1 at *
  have hbd := hbd.dr
  have hb0 := hb0.dr
  have hS := HC _ hb0
  have Hw := fun W h hb => ws w0 [] H1 (w.heap.size + 1) hz0 W h hb (by simp; omega)
  go_region_held3 (fun w' => w'.cell? ⟨w.heap.size, 1, none⟩ = some (.int .i64 kind) ∧ w'.cell? ⟨w.heap.size, 2, none⟩ = some (.int .i64 level) ∧ w'.cell? ⟨w.heap.size, 3, none⟩ = some (.int .i64 right) ∧ w'.cell? ⟨w.heap.size, 4, none⟩ = some (.string (M.bs high)) ∧ w'.cell? ⟨w.heap.size, 5, none⟩ = some (.slice a es.length cap))
    (first | assumption | exact HC _ hb0)
    (first
      | (go_at_call 36; refine (put_any _ _ _ (by omega) (by omega)).mono ?_; rintro e w4 ⟨rfl, b4⟩; have hbd := hbd.bel b4; have hb0 := hb0.tr b4)
      | (go_at_call 67; refine (Hw _ hbd hb0).mono ?_; rintro e w4 ⟨rfl, hbd4, hb4, k4⟩; have hbd := hbd4; have hb0 := hb4))
  have HB1 := hid hbd
  have HB2 := hid hb0
  clear hbd hb0 hbd4 hb4 k4 hS Hw
  rename_i hHeld
  clear hHeld
  obtain ⟨W2, hW2⟩ : ∃ W2, W2 = w4 := ⟨_, rfl⟩
  subst hW2
  have hbd := HB1.out.dr
  have hb0 := HB2.out.dr
  rw [List.nil_append] at hbd
  have hS := HC _ hb0
  have Hw := fun W h hb => ws w0 H1 H2 (w.heap.size + 1) hz0 W h hb (by omega)
  clear HB1 HB2
  go_wp2_with fail
  go_region_held3 (fun w' => w'.cell? ⟨w.heap.size, 1, none⟩ = some (.int .i64 kind) ∧ w'.cell? ⟨w.heap.size, 2, none⟩ = some (.int .i64 level) ∧ w'.cell? ⟨w.heap.size, 3, none⟩ = some (.int .i64 right) ∧ w'.cell? ⟨w.heap.size, 4, none⟩ = some (.string (M.bs high)) ∧ w'.cell? ⟨w.heap.size, 5, none⟩ = some (.slice a es.length cap))
    (first | assumption | exact HC _ hb0)
    (first
      | (go_at_call 36; refine (put_any _ _ _ (by omega) (by omega)).mono ?_; rintro e w4 ⟨rfl, b4⟩; have hbd := hbd.bel b4; have hb0 := hb0.tr b4)
      | (go_at_call 67; refine (Hw _ hbd hb0).mono ?_; rintro e w4 ⟨rfl, hbd4, hb4, k4⟩; have hbd := hbd4; have hb0 := hb4))
  have HB1 := hid hbd
  have HB2 := hid hb0
  obtain ⟨_, _, _, _, hc5⟩ := HC _ hb0
  clear hbd hb0 hbd4 hb4 k4 hS Hw E1 E2 z1 z2 z3 z4 z5 z12 z45 hq3
  rename_i hHeld
  clear hHeld
  obtain ⟨W3, hW3⟩ : ∃ W3, W3 = w4 := ⟨_, rfl⟩
  subst hW3
  have hH12 : (H1 ++ H2).length = 7 + high.length := by rw [List.length_append]; omega
  go_wp2_with fail
  go_loopw [35] (fun i wr => ∃ k : Nat, k ≤ es.length ∧ i = .int .i64 k ∧ Bd wr (w.heap.size + 1) (w.heap.size + 1) (H1 ++ H2 ++ (es.take k).flatMap M.encE) ∧ Bel w0 wr) (fun i _ => es.length - (intOf i).toNat)
  case atStart => exact ⟨0, Nat.zero_le _, rfl, by simpa using HB1.out, HB2.out⟩
  case round =>
    clear HB1 HB2 hc5
    obtain ⟨k, hk, rfl, hbd, hb0⟩ := hrel
    have hbw' := hw0.tr hb0
    have hz1 := hbd.lt
    by_cases hlt : k < es.length
    · obtain ⟨b, off, rfl, hr⟩ := hv.resolve_left (fun e => by rw [e] at hlt; simp at hlt)
      obtain ⟨c1, c2, c3⟩ := (hr.below hbw' (hr.lt (by omega))) k hlt
      have he := p6 es[k] (List.getElem_mem hlt)
      have HT : Hid ((es.take (k + 1)).flatMap M.encE = (es.take k).flatMap M.encE ++ M.encE es[k]) := by show _ = _; rw [List.take_succ_eq_append_getElem hlt, List.flatMap_append, List.flatMap_cons, List.flatMap_nil, List.append_nil]
      have hacc : (H1 ++ H2 ++ (es.take k).flatMap M.encE).length ≤ 100000 := by
        have h5 := M.flat_length (es.take k) (fun e he => p6 e (List.mem_of_mem_take he))
        have h6 : M.szs (es.take k) ≤ M.szs es := by
          conv => rhs; rw [← List.take_append_drop k es, M.szs_append]
          omega
        rw [List.length_append, h5, hH12]; omega
      have HP6 := hid p6
      clear hv hr p6
      generalize es[k] = v at *
      obtain ⟨kk, vv, mm⟩ := v
      simp only at he c1 c2 c3
      have zk : (M.bs kk).size = kk.length := M.bs_size kk
      have zv : (M.bs vv).size = vv.length := M.bs_size vv
      have hmk := M.markN_le mm
      have k1 := M.put_1 (M.markN mm : Int) (by omega) (by omega)
      have k2 := M.put_1 (kk.length : Int) (by omega) (by omega)
      have k3 := M.put_1 (vv.length : Int) (by omega) (by omega)
      have z1 : (M.bs (M.put (M.markN mm : Int) 1)).size = 1 := by rw [M.bs_size, k1]
      have z2 : (M.bs (M.put (kk.length : Int) 1)).size = 1 := by rw [M.bs_size, k2]
      have z3 : (M.bs (M.put (vv.length : Int) 1)).size = 1 := by rw [M.bs_size, k3]
      have z12 : (M.bs (M.put (M.markN mm : Int) 1) ++ M.bs (M.put (kk.length : Int) 1)).size = 2 := by rw [M.bs_append, M.bs_size, List.length_append, k1, k2]
      obtain ⟨X, hX⟩ : ∃ X, X = M.put (M.markN mm : Int) 1 ++ M.put (kk.length : Int) 1 ++ M.put (vv.length : Int) 1 := ⟨_, rfl⟩
      have E1 : M.bs (M.put (M.markN mm : Int) 1) ++ M.bs (M.put (kk.length : Int) 1) ++ M.bs (M.put (vv.length : Int) 1) = M.bs X := by rw [M.bs_append, M.bs_append, hX]
      have E2 : M.bs kk ++ M.bs vv = M.bs (kk ++ vv) := M.bs_append _ _
      have hXl : X.length = 3 := by rw [hX]; simp only [List.length_append, k1, k2, k3]
      have HX : Hid (M.encE (kk, vv, mm) = X ++ (kk ++ vv)) := by show _ = _; rw [hX]; rfl
      clear hX k1 k2 k3
      have hkv : (kk ++ vv).length = kk.length + vv.length := List.length_append ..
      have Hw1 := fun W h hb => ws w0 (H1 ++ H2 ++ (es.take k).flatMap M.encE) X (w.heap.size + 1) hz0 W h hb (by omega)
      have Hw2 := fun W h hb => ws w0 (H1 ++ H2 ++ (es.take k).flatMap M.encE ++ X) (kk ++ vv) (w.heap.size + 1) hz0 W h hb (by rw [List.length_append (bs := X)]; omega)
      have hne : wr.heap.size ≠ w.heap.size + 1 := by omega
      have hbk : (wr.alloc (.cells #[.string (M.bs kk), .string (M.bs vv), .bool mm] 71)).heap[wr.heap.size]? = some (.cells #[.string (M.bs kk), .string (M.bs vv), .bool mm] 71 (0, 0)) := heap_alloc_new wr _
      have hbe := hbd.al (.cells #[.string (M.bs kk), .string (M.bs vv), .bool mm] 71)
      have hbx := hb0.al (.cells #[.string (M.bs kk), .string (M.bs vv), .bool mm] 71)
      have hzx : wr.heap.size < (wr.alloc (.cells #[.string (M.bs kk), .string (M.bs vv), .bool mm] 71)).heap.size := by simp
      clear hbd
      cases mm
      · have hm0 : ((M.markN false : Nat) : Int) = 0 := rfl
        rw [hm0] at z1 z12 E1
        go_wp2_with fail
        generalize wr.alloc (.cells #[.string (M.bs kk), .string (M.bs vv), .bool false] 71) = W4 at *
        have hbe := hbe.dr
        have hbx := hbx.dr
        have hbk : W4.drew.heap[wr.heap.size]? = some (.cells #[.string (M.bs kk), .string (M.bs vv), .bool false] 71 (0, 0)) := hbk
        have hzx : wr.heap.size < W4.drew.heap.size := hzx
        obtain ⟨hs1, hs2, hs3⟩ := cells3_of hbk
        go_region_held3 (fun w' => w'.cell? ⟨wr.heap.size, 0, none⟩ = some (.string (M.bs kk)) ∧ w'.cell? ⟨wr.heap.size, 1, none⟩ = some (.string (M.bs vv)))
          (first | exact ⟨hs1, hs2⟩ | exact ⟨(cells3_of hbk).1, (cells3_of hbk).2.1⟩)
          (first
            | (go_at_call 36; refine (put_any _ _ _ (by omega) (by omega)).mono ?_; rintro e w5 ⟨rfl, b5⟩; have hbe := hbe.bel b5; have hbx := hbx.tr b5; have hbk := (b5.block wr.heap.size hzx).trans hbk; have hzx := Nat.lt_of_lt_of_le hzx b5.size)
            | (go_at_call 67; refine (Hw1 _ hbe hbx).mono ?_; rintro e w5 ⟨rfl, hbd5, hb5, k5⟩; have hbe := hbd5; have hbx := hb5; have hbk := kept_cell k5 hbk hne (by decide)))
        obtain ⟨hs1, hs2, hs3⟩ := cells3_of hbk
        have HB1 := hid hbe
        have HB2 := hid hbx
        rename_i hHeld
        clear hHeld
        clear hbe hbx
        go_wp2_with fail
        refine (Hw2 _ HB1.out HB2.out).mono ?_
        rintro e w6 ⟨rfl, hbd6, hb6, k6⟩
        go_wp2_with fail
        go_roundw
        case rel => exact ⟨k + 1, by omega, by go_num, by rw [HT.out, HX.out, ← List.append_assoc, ← List.append_assoc]; exact hbd6, hb6⟩
        case measure => simp [intOf]; omega
      · have hm0 : ((M.markN true : Nat) : Int) = 1 := rfl
        rw [hm0] at z1 z12 E1
        go_wp2_with fail
        generalize wr.alloc (.cells #[.string (M.bs kk), .string (M.bs vv), .bool true] 71) = W4 at *
        have hbe := hbe.dr
        have hbx := hbx.dr
        have hbk : W4.drew.heap[wr.heap.size]? = some (.cells #[.string (M.bs kk), .string (M.bs vv), .bool true] 71 (0, 0)) := hbk
        have hzx : wr.heap.size < W4.drew.heap.size := hzx
        obtain ⟨hs1, hs2, hs3⟩ := cells3_of hbk
        go_region_held3 (fun w' => w'.cell? ⟨wr.heap.size, 0, none⟩ = some (.string (M.bs kk)) ∧ w'.cell? ⟨wr.heap.size, 1, none⟩ = some (.string (M.bs vv)))
          (first | exact ⟨hs1, hs2⟩ | exact ⟨(cells3_of hbk).1, (cells3_of hbk).2.1⟩)
          (first
            | (go_at_call 36; refine (put_any _ _ _ (by omega) (by omega)).mono ?_; rintro e w5 ⟨rfl, b5⟩; have hbe := hbe.bel b5; have hbx := hbx.tr b5; have hbk := (b5.block wr.heap.size hzx).trans hbk; have hzx := Nat.lt_of_lt_of_le hzx b5.size)
            | (go_at_call 67; refine (Hw1 _ hbe hbx).mono ?_; rintro e w5 ⟨rfl, hbd5, hb5, k5⟩; have hbe := hbd5; have hbx := hb5; have hbk := kept_cell k5 hbk hne (by decide)))
        obtain ⟨hs1, hs2, hs3⟩ := cells3_of hbk
        have HB1 := hid hbe
        have HB2 := hid hbx
        rename_i hHeld
        clear hHeld
        clear hbe hbx
        go_wp2_with fail
        refine (Hw2 _ HB1.out HB2.out).mono ?_
        rintro e w6 ⟨rfl, hbd6, hb6, k6⟩
        go_wp2_with fail
        go_roundw
        case rel => exact ⟨k + 1, by omega, by go_num, by rw [HT.out, HX.out, ← List.append_assoc, ← List.append_assoc]; exact hbd6, hb6⟩
        case measure => simp [intOf]; omega
    · have HF : Hid (es.take k = es) := by show _ = _; rw [List.take_of_length_le (by omega)]
      rw [HF.out, ← HPre.out] at hbd
      have hne : PR ≠ [] := fun e => by rw [e] at hpre; simp at hpre; omega
      have hpl := hpre.2
      clear hpre
      have Hs := string_any (w.heap.size + 1) (w.heap.size + 1) PR wr hbd hne
      have Hl := fun W h => len_any (w.heap.size + 1) (w.heap.size + 1) PR W h
      have hzp : (M.bs PR).size = PR.length := M.bs_size PR
      have hn1 : (496 : Int) - (PR.length : Int) = ((496 - PR.length : Nat) : Int) := by omega
      have hzr : (M.bs (List.replicate (496 - PR.length) 0)).size = 496 - PR.length := by rw [M.bs_size, List.length_replicate]
      have HAp : Hid (M.bs PR ++ M.bs (List.replicate (496 - PR.length) 0) = M.bs BD) := by show _ = _; rw [M.bs_append, HBody.out]
      have hm := fun W => make_zeros W (496 - PR.length) (by omega)
      have hcz := fun W => conv_zeros W (496 - PR.length)
      clear hbd hne p6 hv
      go_wp2_with fail
      refine Hs.mono ?_
      rintro e w5 ⟨rfl, hbd5, b5, _⟩
      go_wp2_with fail
      refine (Hl _ hbd5).mono ?_
      rintro e w6 ⟨rfl, rfl⟩
      go_wp2_with fail
      go_ret
      exact ⟨by rw [← HAp.out]; rfl, Bel.al (hbw'.trans (b5.mono (by omega))) _⟩
theorem bodyOf_any (p : M.Pg) (x : Value) (w : World) (hi : M.inB p = true) (hf : 0 ≤ M.free p) (hv : Vals w x p.es) :
    Calls Tryd.prog 42 #[pv p x] w fun e w' => e = .returned (.string (M.bs (M.body p))) ∧ Bel w w' := by
  obtain ⟨a, cap, rfl, hv⟩ := hv
  exact bodyOf_some p a cap w hi hf hv
set_option maxHeartbeats 1000000 in
theorem encode_any (p : M.Pg) (x : Value) (w : World) (hs : Sm p) (hv : Vals w x p.es) (hT : Tab w) (hl : -9223372036854775808 ≤ p.lsn ∧ p.lsn ≤ 9223372036854775807) :
    Calls Tryd.prog 13 #[pv p x] w fun e w' => e = .returned (.tuple #[.string (M.bs (M.encode p).1), .int .i64 ((M.encode p).2 : Int)]) ∧ Bel w w' := by
  have K1 := fun W hv => inBounds_any p x W hs hv
  have K2 := fun W hv => free_any p x W hs hv
  have hfb : -100000000 ≤ M.free p ∧ M.free p ≤ 489 := by
    have h1 := szs_le p.es hs.each
    have h2 := hs.es
    have h3 := hs.high
    have : p.es.length * 2003 ≤ 1000 * 2003 := Nat.mul_le_mul_right _ h2
    unfold M.free; omega
  by_cases hi : M.inB p = true
  · rw [hi] at K1
    by_cases hf : M.free p < 0
    · have HE : Hid (M.encode p = ([], 8)) := by show _ = _; unfold M.encode; rw [if_pos hi, if_pos hf]
      generalize M.free p = F at *
      obtain ⟨lsn, kind, level, right, high, es⟩ := p
      simp only at K1 K2 hv hl ⊢
      clear hi
      go_enter Tryd.func13, Tryd.ntmps13
      go_wp2_with fail
      refine (K1 _ (hv.bel (Bel.al (Below.refl _ _) _))).mono ?_
      rintro e w1 ⟨rfl, b1⟩
      have hk : w1.heap[w.heap.size]? = some (.cells #[.int .i64 lsn, .int .i64 kind, .int .i64 level, .int .i64 right, .string (M.bs high), x] 29 (0, 0)) := (b1.block _ (by simp)).trans (heap_alloc_new w _)
      obtain ⟨c0, c1, c2, c3, c4, c5⟩ := cells6_of hk
      have bb := Bel.tr (Bel.al (Below.refl _ w) _) b1
      go_wp2_with fail
      refine (K2 _ (hv.bel bb)).mono ?_
      rintro e w2 ⟨rfl, b2⟩
      go_wp2_with fail
      go_ret2
      exact ⟨by rw [HE.out]; rfl, bb.tr b2⟩
    · have HE : Hid (M.encode p = (M.build p.lsn (M.body p), 0)) := by show _ = _; unfold M.encode; rw [if_pos hi, if_neg hf]
      have K3 := fun W hv => bodyOf_any p x W hi (by omega) hv
      have K4 := fun W hT => build_any p.lsn (M.body p) W hT (by rw [M.body_length hi (by omega)]; omega) hl
      generalize M.free p = F at *
      generalize M.build p.lsn (M.body p) = BB at *
      generalize M.body p = BD at *
      obtain ⟨lsn, kind, level, right, high, es⟩ := p
      simp only at K1 K2 K3 K4 hv hl ⊢
      clear hi
      go_enter Tryd.func13, Tryd.ntmps13
      go_wp2_with fail
      refine (K1 _ (hv.bel (Bel.al (Below.refl _ _) _))).mono ?_
      rintro e w1 ⟨rfl, b1⟩
      have hk : w1.heap[w.heap.size]? = some (.cells #[.int .i64 lsn, .int .i64 kind, .int .i64 level, .int .i64 right, .string (M.bs high), x] 29 (0, 0)) := (b1.block _ (by simp)).trans (heap_alloc_new w _)
      obtain ⟨c0, c1, c2, c3, c4, c5⟩ := cells6_of hk
      have bb := Bel.tr (Bel.al (Below.refl _ w) _) b1
      go_wp2_with fail
      refine (K2 _ (hv.bel bb)).mono ?_
      rintro e w2 ⟨rfl, b2⟩
      have hzw : w.heap.size < w1.heap.size := (Array.getElem?_eq_some_iff.1 hk).1
      have hk2 := (b2.block _ hzw).trans hk
      have hk2 : w2.drew.heap[w.heap.size]? = some (.cells #[.int .i64 lsn, .int .i64 kind, .int .i64 level, .int .i64 right, .string (M.bs high), x] 29 (0, 0)) := hk2
      clear c0 c1 c2 c3 c4 c5
      have HC : ∀ W, Bel w2.drew W → W.cell? ⟨w.heap.size, 0, none⟩ = some (.int .i64 lsn) ∧ W.cell? ⟨w.heap.size, 1, none⟩ = some (.int .i64 kind) ∧ W.cell? ⟨w.heap.size, 2, none⟩ = some (.int .i64 level) ∧ W.cell? ⟨w.heap.size, 3, none⟩ = some (.int .i64 right) ∧ W.cell? ⟨w.heap.size, 4, none⟩ = some (.string (M.bs high)) ∧ W.cell? ⟨w.heap.size, 5, none⟩ = some x :=
        fun W hW => cells6_of ((hW.block _ ((Array.getElem?_eq_some_iff.1 hk2).1)).trans hk2)
      have hb0 : Bel w2.drew w2.drew := Below.refl _ _
      have hS := HC _ hb0
      have bb2 := (bb.tr b2).dr
      go_wp2_with fail
      go_region_held3 (fun W => W.cell? ⟨w.heap.size, 0, none⟩ = some (.int .i64 lsn) ∧ W.cell? ⟨w.heap.size, 1, none⟩ = some (.int .i64 kind) ∧ W.cell? ⟨w.heap.size, 2, none⟩ = some (.int .i64 level) ∧ W.cell? ⟨w.heap.size, 3, none⟩ = some (.int .i64 right) ∧ W.cell? ⟨w.heap.size, 4, none⟩ = some (.string (M.bs high)) ∧ W.cell? ⟨w.heap.size, 5, none⟩ = some x)
        (first | assumption | exact HC _ hb0)
        (first
          | (go_at_call 42; refine (K3 _ (hv.bel bb2)).mono ?_; rintro e w4 ⟨rfl, b4⟩; have hb0 := hb0.tr b4; have bb2 := bb2.tr b4)
          | (go_at_call 21; refine (K4 _ (hT.bel bb2)).mono ?_; rintro e w4 ⟨rfl, b4⟩; have hb0 := hb0.tr b4; have bb2 := bb2.tr b4))
      go_wp2_with fail
      go_ret2
      exact ⟨by rw [HE.out]; rfl, bb2⟩
  · have HE : Hid (M.encode p = ([], 1)) := by show _ = _; unfold M.encode; rw [if_neg hi]
    rw [Bool.not_eq_true] at hi
    rw [hi] at K1
    obtain ⟨lsn, kind, level, right, high, es⟩ := p
    simp only at K1 K2 hv hl ⊢
    clear hi
    go_enter Tryd.func13, Tryd.ntmps13
    go_wp2_with fail
    refine (K1 _ (hv.bel (Bel.al (Below.refl _ _) _))).mono ?_
    rintro e w1 ⟨rfl, b1⟩
    go_wp2_with fail
    go_ret2
    exact ⟨by rw [HE.out]; rfl, Bel.tr (Bel.al (Below.refl _ w) _) b1⟩
end Go.Proofs.YtaepbmcmggnmpaaDoor
