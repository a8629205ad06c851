/-
  The contracts of the device's settle and Blow, walked.
-/
import Derived.Test.YtoelaemneoabfaaG
namespace Go.Proofs.Ytoelaemneoabfaa
open Go.RowKit

def put (F : Int → M.Wr) (x : M.Wr) : Int → M.Wr := fun j => if j = x.1 then x else F j
/-- Does the write at place i last? -/
def taken (K : List Int) (i : Nat) : Bool := decide (0 < K.length) && (K[i % K.length]?.getD 0 != 0)
def stl (F : Int → M.Wr) (K : List Int) (L : List M.Wr) : Nat → Int → M.Wr
  | 0 => F
  | m + 1 => if taken K m then put (stl F K L m) (L[m]?.getD (0, [])) else stl F K L m
def settle (S : St) (K : List Int) : St := { S with fin := stl S.fin K S.wait S.wait.length, wait := [], room := S.room + S.wait.length }
/-- The slice kv reads as K. -/
def ReadsN (w : World) (kv : Value) (K : List Int) : Prop := ∃ a cap, kv = .slice a K.length cap ∧ (K = [] ∨ ∃ g off, a = some ⟨g, off, none⟩ ∧ ∀ j (h : j < K.length), w.cell? ⟨g, off + j, none⟩ = some (.int .i64 K[j]))
theorem ReadsN.keep {w w' : World} {kv : Value} {K : List Int} {mb n : Nat} {F : Int → M.Wr} (h : ReadsN w kv K) (hm : MapW w mb n F) (k : Keep (fun j => j ≠ mb ∧ j < w.heap.size) w w') : ReadsN w' kv K := by
  obtain ⟨a, cap, rfl, h⟩ := h
  refine ⟨a, cap, rfl, h.imp id ?_⟩
  rintro ⟨g, off, rfl, hc⟩
  refine ⟨g, off, rfl, fun j hj => ?_⟩
  have hg := block_lt_of_cell (hc j hj)
  have hne : g ≠ mb := fun e => by
    obtain ⟨D, ⟨es, clock, h1, _⟩, _⟩ := hm
    have := hc j hj
    rw [e] at this
    simp [World.cell?, h1] at this
  exact (k.cell (p := ⟨g, off + j, none⟩) ⟨hne, hg⟩).trans (hc j hj)
theorem ReadsN.none (w : World) (a : Option Addr) (cap : Nat) : ReadsN w (.slice a 0 cap) [] := ⟨a, cap, rfl, .inl rfl⟩
theorem readsN_of {w : World} {v : Value} {L : List Int} (h : w.ownsRow 0 3 1 v L.length (csN L)) : ReadsN w v L := by
  have h' := h
  obtain ⟨hlen, ⟨h1, h2⟩ | ⟨g, cap, cur, hv, hg, hh, hn, hm, hs, ht⟩⟩ := h
  · obtain rfl : L = [] := List.length_eq_zero_iff.1 h2
    subst h1
    exact ReadsN.none _ _ _
  · refine ⟨_, cap, hv, .inr ⟨g, 0, rfl, fun j hj => ?_⟩⟩
    have hc := World.ownsRow.cells h' (g := g) (by rw [hv]; rfl)
    have := hc j (.int .i64 L[j]) (by simp [csN, hj])
    rwa [add_lit] at this
theorem stl_dat {F : Int → M.Wr} {K : List Int} {L : List M.Wr} (hF : ∀ i, (F i).2.length ≤ 256) (hL : ∀ x ∈ L, x.2.length ≤ 256) : ∀ m i, (stl F K L m i).2.length ≤ 256
  | 0, i => hF i
  | m + 1, i => by
    unfold stl
    split
    · unfold put
      split
      · cases h : L[m]? with
        | none => simp
        | some x => simpa [h] using hL x (List.mem_of_getElem? h)
      · exact stl_dat hF hL m i
    · exact stl_dat hF hL m i
theorem Good.settle {N : Nat} {S : St} (g : Good N S) (K : List Int) : Good N (settle S K) :=
  ⟨g.n, g.size1, g.size2, by simp [Ytoelaemneoabfaa.settle], stl_dat g.fin g.dat _, by simp [Ytoelaemneoabfaa.settle], by have := g.room; simp [Ytoelaemneoabfaa.settle]; omega, g.done0, g.done, g.fuse0, g.fuse, g.keep⟩
/-- How the loop of settle stands behind m rounds. -/
def SI (mb n : Nat) (S : St) (K : List Int) (w : World) (m : Nat) (W : World) : Prop := (∃ n', MapW W mb n' (stl S.fin K S.wait m) ∧ n' ≤ n + m) ∧ Keep (fun j => j ≠ mb ∧ j < w.heap.size) w W
set_option maxHeartbeats 2000000 in
theorem settle_any (X : Nat → Prop) (b : Nat) (S : St) (N : Nat) (K : List Int) (kv : Value) (w : World) (h : Dev X w b S) (g : Good N S) (hk : ReadsN w kv K) (hK : K.length ≤ 1000) :
    Calls Try.prog 31 #[.pointer (some ⟨b, 0, none⟩), kv] w fun e w' => e = .returned (.tuple #[]) ∧ Dev X w' b (settle S K) ∧ Keep X w w' := by
  obtain ⟨mb, n, wv, qv, h⟩ := h
  have hmb : b ≠ mb := fun e => by
    obtain ⟨D, ⟨es, clock, h1, _⟩, _⟩ := h.map
    rw [← e, show w.heap[b]? = _ from h.blk] at h1
    cases h1
  have hbl := h.blk.lt
  have c2 : w.cell? ⟨b, 2, none⟩ = some wv := by rw [h.blk.cell]; rfl
  have hsh := rowW_of h.wait
  have hL : S.wait.length ≤ 1000 := by have := g.room; have := g.n; omega
  have HD := hid h
  have HG := hid g
  have HK := hid hk
  clear h g
  obtain ⟨ka, kcap, rfl, _⟩ := hk
  obtain ⟨wa, wcap, rfl⟩ : ∃ wa wcap, wv = .slice wa S.wait.length wcap := by
    rcases hsh with ⟨rfl, e⟩ | ⟨g, cap, rfl, _⟩
    · exact ⟨none, 0, by rw [e]; rfl⟩
    · exact ⟨_, _, rfl⟩
  go_enter Try.func31, Try.ntmps31
  go_wp2_with fail
  go_loopw [11] (fun i wr => ∃ m : Nat, m ≤ S.wait.length ∧ i = .int .i64 m ∧ Hid (SI mb n S K w m wr)) (fun i _ => S.wait.length - (intOf i).toNat)
  case atStart => exact ⟨0, by omega, rfl, ⟨n, HD.out.map, by omega⟩, Keep.refl _ _⟩
  case round =>
    obtain ⟨m, hm, rfl, HI⟩ := hrel
    by_cases hlt : m < S.wait.length
    · obtain ⟨⟨n', hmp, hn'⟩, hkp⟩ := HI.out
      obtain ⟨wg, rfl, hwg, hrow⟩ : ∃ wg, wa = some ⟨wg, 0, none⟩ ∧ wg < w.heap.size ∧ RowW w wg 0 S.wait := by
        rcases hsh with ⟨_, e⟩ | ⟨g, cap, e, h1, h2⟩
        · rw [e] at hlt; simp at hlt
        · cases e; exact ⟨g, rfl, h1, h2⟩
      have hwm : wg ≠ mb := fun e => by
        obtain ⟨D, ⟨es, clock, h1, _⟩, _⟩ := HD.out.map
        have := (hrow m hlt).1
        rw [e] at this
        simp [World.cell?, h1] at this
      have e1 := (hkp.cell (p := ⟨wg, 0 + m * 2, none⟩) ⟨hwm, hwg⟩).trans (hrow m hlt).1
      have e2 := (hkp.cell (p := ⟨wg, 0 + m * 2 + 1, none⟩) ⟨hwm, hwg⟩).trans (hrow m hlt).2
      have d1 : wr.cell? ⟨b, 1, none⟩ = some (.map (some mb)) := (hkp.cell (p := ⟨b, 1, none⟩) ⟨hmb, hbl⟩).trans (by rw [HD.out.blk.cell]; rfl)
      have HE : Hid (S.wait[m]?.getD (0, []) = S.wait[m]) := by show _ = _; simp [hlt]
      have HS : Hid (0 ≤ (S.wait[m]).1 ∧ (S.wait[m]).1 < S.size) := HG.out.sec _ (List.getElem_mem hlt)
      have HR := HK.out.keep HD.out.map hkp
      generalize S.wait[m] = E at *
      obtain ⟨es, ed⟩ := E
      simp only [Nat.zero_add] at e1 e2
      clear hsh hrow HK
      obtain ⟨ka', kcap', hke, hR⟩ := HR
      cases hke
      rcases hR with rfl | ⟨kg, koff, rfl, hcells⟩
      · have HT : Hid (SI mb n S [] w (m + 1) (wr.alloc (.cells #[.int .i64 es, .string (M.bs ed)] 65))) := by
          refine ⟨⟨n', ?_, by omega⟩, hkp.al (fun k hk => hk.2) _⟩
          have := hmp.same (Below.heap_alloc wr (.cells #[.int .i64 es, .string (M.bs ed)] 65) mb hmp.lt)
          simpa [stl, taken] using this
        clear HE HS HI hmp
        go_wp2_with fail
        go_roundw
        case rel => exact ⟨m + 1, by omega, by go_num, HT⟩
        case measure => simp [intOf]; omega
      · by_cases hk0 : K = []
        · subst hk0
          have HT : Hid (SI mb n S [] w (m + 1) (wr.alloc (.cells #[.int .i64 es, .string (M.bs ed)] 65))) := by
            refine ⟨⟨n', ?_, by omega⟩, hkp.al (fun k hk => hk.2) _⟩
            have := hmp.same (Below.heap_alloc wr (.cells #[.int .i64 es, .string (M.bs ed)] 65) mb hmp.lt)
            simpa [stl, taken] using this
          clear HE HS HI hmp
          go_wp2_with fail
          go_roundw
          case rel => exact ⟨m + 1, by omega, by go_num, HT⟩
          case measure => simp [intOf]; omega
        have hkl : 0 < K.length := List.length_pos_iff.2 hk0
        have hml := Nat.mod_lt m hkl
        have hkc := hcells (m % K.length) hml
        have hrem : Int.tmod (m : Int) (K.length : Int) = ((m % K.length : Nat) : Int) := by rw [Int.tmod_eq_emod_of_nonneg (by omega)]; omega
        have HT : Hid (taken K m = (K[m % K.length] != 0)) := by show _ = _; simp [taken, hkl, hml]
        have hA : Bel wr (wr.alloc (.cells #[.int .i64 es, .string (M.bs ed)] 65)) := Bel.al (Below.refl _ _) _
        generalize K[m % K.length] = kx at *
        generalize m % K.length = r at *
        have f1 := (bel_cell hA (block_lt_of_cell hkc) (koff + r)).trans hkc
        have f2 := (bel_cell hA (block_lt_of_cell d1) 1).trans d1
        clear hcells hk0
        by_cases hkx : kx = 0
        · have HU : Hid (SI mb n S K w (m + 1) (wr.alloc (.cells #[.int .i64 es, .string (M.bs ed)] 65))) := by
            refine ⟨⟨n', ?_, by omega⟩, hkp.al (fun k hk => hk.2) _⟩
            have := hmp.same (Below.heap_alloc wr (.cells #[.int .i64 es, .string (M.bs ed)] 65) mb hmp.lt)
            unfold stl
            rw [HT.out, hkx]
            exact this
          subst hkx
          clear HE HS HI hmp HT hkc
          go_wp2_with fail
          go_roundw
          case rel => exact ⟨m + 1, by omega, by go_num, HU⟩
          case measure => simp [intOf]; omega
        · have q : (kx == 0) = false := by simpa using hkx
          have hmp2 : MapW (wr.alloc (.cells #[.int .i64 es, .string (M.bs ed)] 65)).drew mb n' (stl S.fin K S.wait m) := hmp.same (Below.heap_alloc wr (.cells #[.int .i64 es, .string (M.bs ed)] 65) mb hmp.lt)
          obtain ⟨W2, hup, hm3, hg3⟩ := hmp2.store (by have := HD.out.room; have := HG.out.room; have := HG.out.n; unfold maxLen; omega) es (int_wf (by have := HS.out; omega) (by have := HS.out; have := HG.out.size2; omega)) (es, ed)
          have HU : Hid (SI mb n S K w (m + 1) W2) := by
            refine ⟨⟨n' + 1, ?_, by omega⟩, ((hkp.al (fun k hk => hk.2) _).dr).grown (fun k hk => hk.2) hg3 (fun k e hx => hx.1 (by cases e; rfl))⟩
            unfold stl
            rw [HT.out, HE.out]
            simp only [bne, q, Bool.not_false, if_true]
            exact hm3
          clear HE HS HI hmp hmp2 HT hkc hm3 hg3
          unfold valW at hup
          go_wp2_with fail
          go_region
          go_wp2_with fail
          go_roundw
          case rel => exact ⟨m + 1, by omega, by go_num, HU⟩
          case measure => simp [intOf]; omega
    · obtain rfl : m = S.wait.length := by omega
      obtain ⟨⟨n', hmp, hn'⟩, hkp⟩ := HI.out
      have hb1 : Blk wr b _ 61 := (hkp.block b ⟨hmb, hbl⟩).trans HD.out.blk
      have d2 := hb1.cell 2
      have f2 := hb1.frozen 2
      have d2' : wr.cell? ⟨b, 2, none⟩ = some (.slice wa S.wait.length wcap) := d2
      have HF : Hid (Dev X (wr.setCell ⟨b, 2, none⟩ (.slice none 0 0)) b (settle S K) ∧ Keep X w (wr.setCell ⟨b, 2, none⟩ (.slice none 0 0))) := by
        have hD := HD.out
        have nm : ∀ {e : TypeId} {size : Nat} {v : Value} {m : Nat} {xs : List Value}, w.ownsRow 0 e size v m xs → ∀ g, v.ownBlock = some g → g ≠ mb ∧ g < w.heap.size := by
          intro e size v m xs hv g hg
          refine ⟨fun e' => ?_, (hv.lt g hg).2⟩
          subst e'
          rcases hv.2 with ⟨rfl, _⟩ | ⟨g', cap, cur, rfl, _, hgb, _⟩
          · simp [Value.ownBlock] at hg
          · obtain rfl : g' = g := by simpa [Value.ownBlock] using hg
            obtain ⟨D, ⟨es, clock, h1, _⟩, _⟩ := hD.map
            rw [hgb] at h1
            cases h1
        have hd : DevAt X wr b { S with fin := stl S.fin K S.wait S.wait.length, room := S.room + S.wait.length } mb n' (.slice wa S.wait.length wcap) qv :=
          ⟨hb1, hmp, by have := hD.room; simp; omega, row_keep hD.wait hkp (nm hD.wait), row_keep hD.keep hkp (nm hD.keep), hD.xb, hD.xm, hD.xw, hD.xk, fun j hj => Nat.lt_of_lt_of_le (hD.lt j hj) hkp.size⟩
        obtain ⟨p1, p2, p3, p4, p5⟩ := hd.parts ((Keep.refl (fun j => j ≠ b) wr).set (p := ⟨b, 2, none⟩) (by simp) (.slice none 0 0))
        exact ⟨⟨mb, n', .slice none 0 0, qv, hb1.set 2 _, p1, hd.room, World.ownsRow_nil _ _ _ _, p3, hD.xb, hD.xm, by simp [Value.ownBlock], hD.xk, p4⟩, (hkp.weak (fun j hj => ⟨fun e => hD.xm (by rw [← e]; exact hj), hD.lt j hj⟩)).tr p5⟩
      clear HI hmp d2 hb1 HK HD hsh
      go_wp2_with fail
      go_end0
      exact ⟨rfl, HF.out⟩
def blow (S : St) (K : List Int) : St := if S.off then S else { settle S K with off := true }
end Go.Proofs.Ytoelaemneoabfaa
