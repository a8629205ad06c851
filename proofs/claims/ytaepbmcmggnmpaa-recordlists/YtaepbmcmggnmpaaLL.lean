/-
  The law RecordLists, walked; lists of texts, as they come in.
-/
import Derived.Test.YtaepbmcmggnmpaaSP
import Derived.Test.YtaepbmcmggnmpaaRB
import Derived.Deep.AppendLies
import Derived.Lib.MinMax
import Derived.ProofKit
import Derived.OpenShut
import Derived.ShutString
import Derived.Carry
namespace Go.Proofs.Ytaepbmcmggnmpaa
open Go.RowKit Go.ChangeShapes Go.WideShapes Go.ChangeAt
set_option maxRecDepth 100000

theorem add_lit (g o i : Nat) : (⟨g, o, none⟩ : Addr).add i = ⟨g, o + i, none⟩ := by unfold Addr.add; split <;> simp_all
theorem open_texts {H : Type} {enc : TypeId × Value → H} {W : World} {base : Nat} {r : Reach} {v : Value} {d : DataW H} {p : List MemPlace} (hv : Value.okWide Try.prog W r base 47 v)
    (h : DataW.Trod enc Try.prog W 0 (fun _ => true) true 47 v d p) : ∃ (L : List (List UInt8)) (a : Option Addr) (cap : Nat), v = .slice a L.length cap ∧ L.length ≤ maxLen ∧ ((L = [] ∨ ∃ g off, a = some ⟨g, off, none⟩ ∧ Row1 W g off L) ∧ ∀ t ∈ L, t.length ≤ maxLen) := by
  obtain ⟨a, len, cap, rfl⟩ := okWide_slice Try.underlying47 hv
  obtain ⟨fuel, hf⟩ := h
  rcases open_strings Try.underlying47 Try.underlying9 (by kernel_rfl) hf with ⟨hcs, _⟩ | ⟨a', len', cap', ss, hcs, _, hl, hm, hz, _, hc, hsz⟩
  · have e : (Value.slice a len cap).cells.toList = [.slice a len cap] := rfl
    rw [e] at hcs
    obtain ⟨h1, h2, h3⟩ := Value.slice.inj (List.cons.inj hcs).1
    subst h1 h2 h3
    exact ⟨[], none, 0, rfl, by simp, .inl rfl, by simp⟩
  · have e : (Value.slice a len cap).cells.toList = [.slice a len cap] := rfl
    rw [e] at hcs
    obtain ⟨h1, h2, h3⟩ := Value.slice.inj (List.cons.inj hcs).1
    subst h1 h2 h3
    have hlz : len ≤ ss.length := by rw [hz]; simpa using hl
    have hlen : ((ss.take len).map fun s => s.data.toList).length = len := by rw [List.length_map, List.length_take]; omega
    refine ⟨(ss.take len).map fun s => s.data.toList, some a', cap, by rw [hlen], by rw [hlen]; omega, ?_, ?_⟩
    · by_cases h0 : len = 0
      · left; rw [h0]; rfl
      · right
        obtain ⟨b, off, spot⟩ := a'
        have hspot : spot = none := by simpa [Addr.add] using World.cell?_spot (hc 0 (by omega))
        subst hspot
        refine ⟨b, off, rfl, fun j hj => ?_⟩
        have hj' : j < len := by rw [hlen] at hj; exact hj
        have := hc j (by omega)
        rw [add_lit] at this
        rw [this, List.getElem_map, List.getElem_take, M.bs_of]
        simp [List.getD_eq_getElem?_getD, List.getElem?_eq_getElem (show j < ss.length by omega)]
    · intro t ht
      obtain ⟨s, hs, rfl⟩ := List.mem_map.1 ht
      have := hsz s (List.mem_of_mem_take hs)
      rw [Lib.size_eq] at this
      exact this

theorem cut_eq (t : List UInt8) (n : Nat) : (M.bs t).extract 0 (min (t.length : Int) (n : Int)).toNat = M.bs (t.take n) := by
  rw [M.extract_bs, M.bs_data, List.drop_zero]
  congr 1
  by_cases h : t.length ≤ n
  · rw [List.take_of_length_le (by omega), List.take_of_length_le h]
  · congr 1; omega
theorem appS9 {ops : Array Oper} {o : Oper} {a : Act} {K : Act → World → Prop} {Q : Exit → Act → World → Prop} {E : Prop} {W : World} (hgd : o.guard = none) (s x : Operand)
    (ho : o.op = .call { callee := .builtin .append, args := #[s, x], argTypes := #[47, 47] }) (base : Nat) (v : Value) (L : List (List UInt8)) (hs : a.eval s = v) (hown : OwnT W base v L) (t : List UInt8)
    (g : Nat) (hx : a.eval x = .slice (some ⟨g, 0, none⟩) 1 1) (hc : W.cell? ⟨g, 0, none⟩ = some (.string (M.bs t))) (hlen : L.length ≤ 100000) (hbase : base ≤ W.heap.size)
    (h : ∀ v' w', OwnT w' base v' (L ++ [t]) → W.grownBy w' v.ownBlock → K (a.put o.dst v') w') :
    if Region.wanted o (yielded ops a.tmps) = true then Oper.wp Try.prog o a W K Q else E := by
  have hw : Region.wanted o (yielded ops a.tmps) = true := by simp [Region.wanted, hgd]
  rw [if_pos hw]
  obtain ⟨i0, hi, hz0, hz1, hz2⟩ := info_parts info9
  refine wp_append_own W s x 47 ho base 9 i0 _ 1 16 Try.underlying47 hi hz0 hz1 hz2 rfl (by decide) v L.length _ hs hown ⟨g, 0, none⟩ 1 1 (cell1 t) hx rfl ?_ ?_ (by unfold maxLen; omega) (by omega) hbase ?_
  · intro j u hu
    rw [add_lit]
    match j, hu with
    | 0, hu => simp [cell1] at hu; subst hu; exact hc
  · intro u hu; simp [cell1] at hu; subst hu; rfl
  · intro v' w' h1 h2 _
    exact h v' w' (by unfold OwnT; simpa using h1) h2
/-- At most thirty texts, each cut at five hundred bytes. -/
def cutT (L : List (List UInt8)) : List (List UInt8) := (L.take 30).map (·.take 500)
theorem cutT_length (L : List (List UInt8)) : (cutT L).length ≤ 30 := by unfold cutT; rw [List.length_map, List.length_take]; omega
theorem cutT_small (L : List (List UInt8)) : ∀ t ∈ cutT L, t.length ≤ 500 := by
  intro t ht
  obtain ⟨q, _, rfl⟩ := List.mem_map.1 ht
  rw [List.length_take]; omega
theorem cutT_step (L : List (List UInt8)) (k : Nat) (h : k < L.length) (h2 : k < 30) : cutT (L.take (k + 1)) = cutT (L.take k) ++ [L[k].take 500] := by
  unfold cutT
  rw [List.take_of_length_le (l := L.take (k + 1)) (by rw [List.length_take]; omega), List.take_of_length_le (l := L.take k) (by rw [List.length_take]; omega), List.take_succ_eq_append_getElem h, List.map_append]; rfl
theorem cutT_end (L : List (List UInt8)) (k : Nat) (h : L.length ≤ k ∨ 30 ≤ k) : cutT (L.take k) = cutT L := by
  rcases h with h | h
  · rw [List.take_of_length_le h]
  · unfold cutT
    rw [List.take_take, Nat.min_eq_left h]
theorem ValT.row {w : World} {a : Option Addr} {n c : Nat} {L : List (List UInt8)} (h : ValT w (.slice a n c) L) (hL : 0 < L.length) : ∃ b off, a = some ⟨b, off, none⟩ ∧ Row1 w b off L := by
  obtain ⟨x, y, hx, h⟩ := h
  simp only [Value.slice.injEq] at hx
  obtain ⟨rfl, _, _⟩ := hx
  exact h.resolve_left (fun e => by rw [e] at hL; simp at hL)
set_option maxHeartbeats 8000000 in
theorem lists_any (L : List (List UInt8)) (a : Option Addr) (cap : Nat) (sb : ByteArray) (w : World) (hL : L.length ≤ maxLen) (hs : (L = [] ∨ ∃ g off, a = some ⟨g, off, none⟩ ∧ Row1 w g off L) ∧ ∀ t ∈ L, t.length ≤ maxLen) (hsb : sb.size ≤ maxLen) :
    Calls Try.prog 5 #[.slice a L.length cap, .string sb] w fun e w' => e = .returned (.bool true) ∧ Bel w w' := by
  obtain ⟨s, rfl⟩ : ∃ s, sb = M.bs s := ⟨sb.data.toList, (M.bs_of sb).symm⟩
  have hz : (M.bs s).size = s.length := M.bs_size s
  rw [hz] at hsb
  unfold maxLen at hL hs hsb
  obtain ⟨hs, hm⟩ := hs
  have HS := hid hs
  have HM := hid hm
  clear hs hm
  by_cases hbig : 2000 < s.length
  · go_enter Try.func5, Try.ntmps5
    go_wp2_with fail
    refine (speaks_any _).mono ?_
    rintro e w1 ⟨rfl, b1⟩
    go_wp2_with fail
    go_ret
    exact ⟨rfl, b1⟩
  · have m1 := cutT_length L
    have m2 := cutT_small L
    have HSp := M.split_join (cutT L) (by omega) (fun t ht => by have := m2 t ht; omega)
    have hjl : (M.joinL (cutT L)).length ≤ 60000 := by
      unfold M.joinL
      have := flat_le (cutT L) (fun t ht => by have := m2 t ht; omega)
      rw [List.length_append, M.put_two_len _ (by omega) (by omega)]
      have h5 : ((cutT L).flatMap M.frm).length ≤ (cutT L).length * 502 := by
        have : ∀ K : List (List UInt8), (∀ t ∈ K, t.length ≤ 500) → (K.flatMap M.frm).length ≤ K.length * 502 := by
          intro K
          induction K with
          | nil => simp
          | cons t K ih =>
            intro h
            have h1 := h t (by simp)
            have := ih (fun q hq => h q (by simp [hq]))
            rw [List.flatMap_cons, List.length_append, List.length_cons, M.frm_length t (by omega)]
            omega
        exact this _ m2
      omega
    have J1 := fun W x hv => join_any (cutT L) x W hv (by omega) (fun t ht => by have := m2 t ht; omega)
    have J2 := fun W x hv => rjoin_any (cutT L) x W hv (by omega) (fun t ht => by have := m2 t ht; omega)
    have S1 := fun W => split_any (M.joinL (cutT L)) W hjl
    rw [HSp] at S1
    have S2 := fun W => split_any s W (by omega)
    have S3 := fun W => rsplit_any s W (by omega)
    have hsl := M.split_len s
    have J3 := fun W x hv => join_any (M.split s).1 x W hv (by omega) (fun t ht => by have := (hsl.2 t ht).2; omega)
    have HJ : Hid ((M.split s).2 = 0 → M.joinL (M.split s).1 = s) := fun h => (M.join_split s (M.split s).1 (by rw [← h])).1
    have hSK : (M.split s).1.length ≤ 1000 := by omega
    clear HSp hjl m2 hsl
    have HC : Hid (∀ k, L.length ≤ k ∨ 30 ≤ k → cutT (L.take k) = cutT L) := fun k h => cutT_end L k h
    have HCL := hid m1
    generalize M.bs (M.joinL (cutT L)) = JT at *
    generalize (M.split s).2 = cd at *
    generalize (M.split s).1 = SK at *
    go_enter Try.func5, Try.ntmps5
    go_wp2_with fail
    refine (speaks_any _).mono ?_
    rintro e w1 ⟨rfl, b1⟩
    go_wp2_with fail
    go_loopw [5, 6] (fun mv i wr => ∃ (k : Nat), k ≤ L.length ∧ k ≤ 30 ∧ i = .int .i64 k ∧ OwnT wr w.heap.size mv (cutT (L.take k)) ∧ Bel w wr) (fun _ i _ => 30 - (intOf i).toNat)
    case atStart => exact ⟨0, Nat.zero_le _, by omega, rfl, OwnT.nil _ _, b1⟩
    case round =>
      clear b1
      obtain ⟨k, hk, hk30, rfl, hown, hb⟩ := hrel
      by_cases hlt : k < L.length ∧ k < 30
      · obtain ⟨hlt, hlt2⟩ := hlt
        obtain ⟨b, off, rfl, hr⟩ := HS.out.resolve_left (fun h => by rw [h] at hlt; simp at hlt)
        have hbw := hr.lt (by omega)
        have c1 := (hr.below hb hbw) k hlt
        have ht := HM.out L[k] (List.getElem_mem hlt)
        have HT := hid (cutT_step L k hlt hlt2)
        have hacc : (cutT (L.take k)).length ≤ 100000 := by have := cutT_length (L.take k); omega
        clear hr
        generalize L[k] = t at *
        have zt : (M.bs t).size = t.length := M.bs_size t
        have ho := hown.bel (Bel.dr (Below.refl _ wr))
        have hr5 : ∀ j, u5.ownBlock = some j → w.heap.size ≤ j := fun j hj => (World.ownsRow.lt hown j hj).1
        have hbz := hb.size
        have hbr : b < wr.drew.heap.size := Nat.lt_of_lt_of_le hbw hb.size
        have hbr2 : b < wr.heap.size := hbr
        have hd : ∀ o, (wr.drew.alloc o).cell? ⟨b, off + k, none⟩ = some (.string (M.bs t)) := fun o => (bel_cell (Bel.al (Below.refl _ wr.drew) o) hbr _).trans c1
        have hcut : (M.bs t).extract 0 (min (t.length : Int) 500).toNat = M.bs (t.take 500) := cut_eq t 500
        have p1 : (0 : Int) ≤ min (t.length : Int) 500 := by omega
        have p2 : min (t.length : Int) 500 ≤ (t.length : Int) := by omega
        have hcj : (0 : Int) ≤ min (t.length : Int) 500 ∧ min (t.length : Int) 500 ≤ (t.length : Int) := by omega
        generalize t.take 500 = T at *
        clear hown
        go_wp2_with fail
        go_region_held3 (fun w' => w'.cell? ⟨b, off + k, none⟩ = some (.string (M.bs t))) (go_keep)
          (first
            | (refine appS9 (by rfl) _ _ (by rfl) w.heap.size u5 (cutT (L.take k)) (by rfl) (by exact ho.al _) T _ (by rfl) (by go_simp) hacc (by first | (simp; done) | (simp; omega)) ?_; intro v5 w4 o4 g4; have hcx : w4.cell? ⟨b, off + k, none⟩ = some (.string (M.bs t)) := (World.cell?_of_block (g4.block b (by simp; omega) (fun e => by have := hr5 b e.symm; omega))).trans (hd _)))
        have bA : Below w.heap.size w w4 := Below.grown (Bel.al hb.dr _) g4 (by simp; omega) hr5
        clear g4 hr5 ho
        go_wp2_with fail
        go_roundw
        case rel => exact ⟨k + 1, by omega, by omega, by go_num, by rw [HT.out]; exact o4, bA⟩
        case measure => simp [intOf]; omega
      · have hce := HC.out k (by omega)
        rw [hce] at hown
        obtain ⟨am, cm, rfl, _⟩ := id hown.vals
        have hcs : L.length ≤ k ∨ (k < L.length ∧ 30 ≤ k) := by omega
        clear hlt hce HS HM HC
        rcases hcs with hc1 | ⟨hc1, hc2⟩
        all_goals
          go_wp2_with fail
          refine (J1 _ _ hown.vals).mono ?_
          rintro e w3 ⟨rfl, b3⟩
          go_wp2_with fail
          refine (S1 _).mono ?_
          rintro e w4 ⟨xb, rfl, o4, b4⟩
          have hm4 := (hown.vals.bel b3).bel b4
          go_wp2_with fail
          refine (J2 _ _ hm4).mono ?_
          rintro e w5 ⟨rfl, b5⟩
          have hm5 := hid (hm4.bel b5)
          have hb5 := hid (o4.vals.bel b5)
          have bb5 := hid (((hb.tr b3).tr b4).tr b5)
          obtain ⟨ab, cb, rfl, _⟩ := id o4.vals
          clear hm4 o4 hown J1 S1 J2 b3 b4 b5 hb
          go_wp2_with fail
          go_loopw [10] (fun i wr => ∃ j : Nat, j ≤ (cutT L).length ∧ i = .int .i64 j ∧ Bel w5 wr) (fun i _ => (cutT L).length - (intOf i).toNat)
          case atStart => exact ⟨0, Nat.zero_le _, rfl, Below.refl _ _⟩
          case round =>
            obtain ⟨j, hj, rfl, hbj⟩ := hrel
            by_cases hjl : j < (cutT L).length
            · obtain ⟨b1, f1, rfl, hr1⟩ := (hm5.out.bel hbj).row (by omega)
              obtain ⟨b2, f2, rfl, hr2⟩ := (hb5.out.bel hbj).row (by omega)
              have c1 := hr1 j hjl
              have c2 := hr2 j hjl
              clear hr1 hr2
              generalize (cutT L)[j] = t at *
              go_wp2_with fail
              go_region
              go_wp2_with fail
              go_roundw
              case rel => exact ⟨j + 1, by omega, by go_num, hbj.dr⟩
              case measure => simp [intOf]; omega
            · have bb6 := hid (bb5.out.tr hbj)
              clear hm5 hb5 bb5
              go_wp2_with fail
              refine (S2 _).mono ?_
              rintro e w6 ⟨xa, rfl, o6, b6⟩
              go_wp2_with fail
              refine (S3 _).mono ?_
              rintro e w7 ⟨xr, rfl, o7, b7⟩
              have va := hid (o6.vals.bel b7)
              have vr := hid o7.vals
              have bb7 := hid ((bb6.out.tr b6).tr b7)
              obtain ⟨aa, ca, rfl, _⟩ := id o6.vals
              obtain ⟨ar, cr, rfl, _⟩ := id o7.vals
              clear o6 o7 b6 b7 S2 S3 bb6 hbj
              go_wp2_with fail
              go_loopw [15] (fun i wr => ∃ j : Nat, j ≤ SK.length ∧ i = .int .i64 j ∧ Bel w7 wr) (fun i _ => SK.length - (intOf i).toNat)
              case atStart => exact ⟨0, Nat.zero_le _, rfl, Below.refl _ _⟩
              case round =>
                obtain ⟨j, hj, rfl, hbj⟩ := hrel
                by_cases hjl : j < SK.length
                · obtain ⟨b1, f1, rfl, hr1⟩ := (va.out.bel hbj).row (by omega)
                  obtain ⟨b2, f2, rfl, hr2⟩ := (vr.out.bel hbj).row (by omega)
                  have c1 := hr1 j hjl
                  have c2 := hr2 j hjl
                  clear hr1 hr2
                  generalize SK[j] = t at *
                  go_wp2_with fail
                  go_region
                  go_wp2_with fail
                  go_roundw
                  case rel => exact ⟨j + 1, by omega, by go_num, hbj.dr⟩
                  case measure => simp [intOf]; omega
                · by_cases hcd : cd = 0
                  · subst hcd
                    have hJ := HJ.out rfl
                    rw [hJ] at J3
                    have hva := va.out.bel hbj
                    go_wp2_with fail
                    refine (J3 _ _ hva).mono ?_
                    rintro e w8 ⟨rfl, b8⟩
                    go_wp2_with fail
                    go_ret
                    exact ⟨rfl, (bb7.out.tr hbj).tr b8⟩
                  · have qc : ((cd : Int) != 0) = true := by first | (simp; done) | (simp; omega)
                    have qc2 : ¬ ((cd : Int) = 0) := by omega
                    go_wp2_with fail
                    go_ret
                    exact ⟨rfl, bb7.out.tr hbj⟩
end Go.Proofs.Ytaepbmcmggnmpaa
