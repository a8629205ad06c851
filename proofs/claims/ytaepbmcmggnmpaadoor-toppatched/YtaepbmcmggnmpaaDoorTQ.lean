/-
  The law TopPatched, walked.
-/
import Derived.Test.YtaepbmcmggnmpaaDoorTP
import Derived.Test.YtaepbmcmggnmpaaDoorXB
import Derived.Test.YtaepbmcmggnmpaaDoorXC
import Derived.Test.YtaepbmcmggnmpaaDoorXF
import Derived.Test.YtaepbmcmggnmpaaDoorXG
import Derived.Test.YtaepbmcmggnmpaaDoorYG
namespace Go.Proofs.YtaepbmcmggnmpaaDoor.Pt
open Go.RowKit
set_option maxRecDepth 100000
theorem diff_small (a b : List UInt8) (n : Nat) (hb : b.length ≤ n) : ∀ p ∈ M.diff a b, p.2.length ≤ n := by
  intro p hp
  unfold M.diff at hp
  split at hp
  · obtain ⟨q, _, rfl⟩ := List.mem_map.1 hp
    simp only [M.pc, List.length_take, List.length_drop]; omega
  · simp at hp

def tot : List (Nat × Nat) → Nat
  | [] => 0
  | p :: R => (p.2 - p.1) + tot R
theorem tot_le (R : List (Nat × Nat)) : ∀ m, (∀ p ∈ R, p.1 < p.2 ∧ p.2 ≤ m) → R.Pairwise (fun q p => p.2 ≤ q.1) → tot R ≤ m := by
  induction R with
  | nil => intro m _ _; exact Nat.zero_le _
  | cons p R ih =>
    intro m h hp
    rw [List.pairwise_cons] at hp
    have h1 := ih p.1 (fun q hq => ⟨(h q (by simp [hq])).1, hp.1 q hq⟩) hp.2
    have h2 := h p (by simp)
    simp only [tot]; omega
theorem pcs_bytes (b : List UInt8) (hb : b.length ≤ 65535) (R : List (Nat × Nat)) (h : ∀ p ∈ R, p.1 < p.2 ∧ p.2 ≤ b.length) : ((M.pcs b R).flatMap M.one).length = 4 * R.length + tot R := by
  induction R with
  | nil => rfl
  | cons p R ih =>
    have hp := h p (by simp)
    have hl := M.pc_length b p hp.2 hp.1
    have h1 : (M.one (M.pc b p)).length = 4 + (M.pc b p).2.length := M.one_length (M.pc b p) (by simp [M.pc]) (by simp only [M.pc]; omega) (by omega)
    rw [M.pcs_cons, List.flatMap_append, List.length_append, ih (fun q hq => h q (by simp [hq]))]
    simp only [List.flatMap_cons, List.flatMap_nil, List.append_nil, h1, hl, tot, List.length_cons]; omega
theorem putP_diff (a b : List UInt8) (n : Nat) (hb : b.length ≤ n) : (M.putP (M.diff a b)).length ≤ 2 + 5 * n := by
  have hr := M.diff_right a b
  have hl := M.diff_length a b
  unfold M.putP
  rw [if_pos ⟨hr, hl.2⟩, List.length_append, M.put_two_len _ (by omega) (by omega)]
  unfold M.diff
  split
  · rename_i h
    obtain ⟨h1, h2⟩ := M.ivs_ok (M.dif a b) b.length
    have h3 : ∀ p ∈ M.ivs (M.dif a b) b.length, p.1 < p.2 ∧ p.2 ≤ b.length := fun p hp => ⟨(h1 p hp).1, (h1 p hp).2.1⟩
    rw [pcs_bytes b h.2 _ h3]
    have := tot_le _ _ h3 h2
    have := M.ivs_length (M.dif a b) b.length
    omega
  · simp

end Go.Proofs.YtaepbmcmggnmpaaDoor.Pt
namespace Go.Proofs.YtaepbmcmggnmpaaDoor
open Go.RowKit
set_option maxRecDepth 100000
namespace M
def kA : List UInt8 := (Ky.M.put [([], -1, false)]).1
def kB : List UInt8 := (Ky.M.put [([120], 0, true)]).1
def exO : Pg := { lsn := 0, kind := 3, level := 0, right := 0, high := [], es := [(kA, [], false), (kB, [], false)] }
theorem exO_ok : ((Ky.M.put [([], -1, false)]).2 == 0 && (Ky.M.put [([120], 0, true)]).2 == 0 && Op.bytesLess kA kB && (encode exO).2 == 0 && whole (encode exO).1 && get (put 7 2) == 7 && decide ((encode exO).1.length = 512) && decide (kA.length ≤ 20) && decide (kB.length ≤ 20)) = true := by decide +kernel
end M
theorem row_one (w : World) (v : Ky.M.V) (t : TypeId) : Ky.Row3 (w.alloc (.cells #[.string (M.bs v.1), .int .i64 v.2.1, .bool v.2.2] t)) w.heap.size 0 [v] := by
  have h := cells3_of (heap_alloc_new w (.cells #[.string (M.bs v.1), .int .i64 v.2.1, .bool v.2.2] t))
  intro j hj
  obtain rfl : j = 0 := by simp at hj; omega
  exact h
theorem bs_toL (l : List UInt8) : (M.bs l).toList = l := by rw [ByteArray.toList_eq]; rfl
set_option maxHeartbeats 4000000 in
theorem orders_any (w : World) (hT : Tab w) : Calls Tryd.prog 26 #[] w fun e w' => e = .returned (.bool true) ∧ Bel w w' := by
  have ex := M.exO_ok
  simp only [Bool.and_eq_true, beq_iff_eq, decide_eq_true_eq] at ex
  obtain ⟨⟨⟨⟨⟨⟨⟨⟨x1, x2⟩, x3⟩, x4⟩, x5⟩, x6⟩, x7⟩, x8⟩, x9⟩ := ex
  have QE := fun W v hv h => encode_any M.exO v W ⟨by decide, by decide, by intro e he; simp [M.exO] at he; rcases he with rfl | rfl <;> simp <;> omega⟩ hv h ⟨by decide, by decide⟩
  rw [x4] at QE
  have QW := fun W h => whole_any (M.encode M.exO).1 W h (by omega)
  rw [x5] at QW
  have QP := fun W => put_any 7 2 W (by omega) (by omega)
  have QG := fun W => get_any (M.bs (M.put 7 2)) W (by rw [M.bs_size]; decide +kernel)
  have hg : M.get (M.bs (M.put 7 2)).data.toList = 7 := x6
  rw [hg] at QG
  have K1 := fun W b c (h : Ky.Row3 W b 0 [([], -1, false)]) => Ky.put_some [([], -1, false)] b 0 c W h (by decide) (by decide) (by decide)
  have K2 := fun W b c (h : Ky.Row3 W b 0 [([120], 0, true)]) => Ky.put_some [([120], 0, true)] b 0 c W h (by decide) (by decide) (by decide)
  rw [x1] at K1
  rw [x2] at K2
  have hA : ∀ W b c, Ky.Row3 W b 0 [([], -1, false)] → Calls Tryd.prog 27 #[.slice (some ⟨b, 0, none⟩) 1 c] W fun e w' => e = .returned (.tuple #[.string (M.bs M.kA), .int .i64 0]) ∧ Bel W w' := K1
  have hB : ∀ W b c, Ky.Row3 W b 0 [([120], 0, true)] → Calls Tryd.prog 27 #[.slice (some ⟨b, 0, none⟩) 1 c] W fun e w' => e = .returned (.tuple #[.string (M.bs M.kB), .int .i64 0]) ∧ Bel W w' := K2
  clear K1 K2
  have QE' : ∀ W v, Vals W v [(M.kA, [], false), (M.kB, [], false)] → Tab W → Calls Tryd.prog 13 #[.agg #[.int .i64 0, .int .i64 3, .int .i64 0, .int .i64 0, .string ⟨#[]⟩, v]] W fun e w' => e = .returned (.tuple #[.string (M.bs (M.encode M.exO).1), .int .i64 0]) ∧ Bel W w' := QE
  have hlt : Op.bytesLess (M.bs M.kA).toList (M.bs M.kB).toList = true := by rw [bs_toL, bs_toL]; exact x3
  clear QE x1 x2 x3 x4 x5 x6 x7 hg
  generalize (M.encode M.exO).1 = EN at *
  generalize M.kA = kA at *
  generalize M.kB = kB at *
  go_enter Tryd.func26, Tryd.ntmps26
  go_wp2_with fail
  refine (Ky.number_any _ _).mono ?_
  rintro e w1 ⟨rfl, b1⟩
  go_wp2_with fail
  refine (hA _ _ _ (row_one w1 ([], -1, false) 63)).mono ?_
  rintro e w2 ⟨rfl, b2⟩
  have bb2 : Bel w w2 := (b1.al _).tr b2
  clear b1 b2 hA
  go_wp2_with fail
  refine (Ky.text_any _ _).mono ?_
  rintro e w3 ⟨rfl, b3⟩
  go_wp2_with fail
  refine (hB _ _ _ (row_one w3 ([120], 0, true) 63)).mono ?_
  rintro e w4 ⟨rfl, b4⟩
  have bb4 : Bel w w4 := ((bb2.tr b3).al _).tr b4
  clear b3 b4 bb2 hB
  have bW : Bel w4 (w4.alloc (.cells #[.string (M.bs kA), .string ⟨#[]⟩, .bool false, .string (M.bs kB), .string ⟨#[]⟩, .bool false] 71)) := Bel.al (Below.refl _ _) _
  have hv : Vals (w4.alloc (.cells #[.string (M.bs kA), .string ⟨#[]⟩, .bool false, .string (M.bs kB), .string ⟨#[]⟩, .bool false] 71)) (.slice (some ⟨w4.heap.size, 0, none⟩) 2 2) [(kA, [], false), (kB, [], false)] := by
    refine ⟨_, _, rfl, .inr ⟨_, _, rfl, ?_⟩⟩
    have h := heap_alloc_new w4 (.cells #[.string (M.bs kA), .string ⟨#[]⟩, .bool false, .string (M.bs kB), .string ⟨#[]⟩, .bool false] 71)
    intro j hj
    match j, hj with
    | 0, _ => exact ⟨cell_of h rfl, cell_of h rfl, cell_of h rfl⟩
    | 1, _ => exact ⟨cell_of h rfl, cell_of h rfl, cell_of h rfl⟩
  go_wp2_with fail
  generalize w4.alloc (.cells #[.string (M.bs kA), .string ⟨#[]⟩, .bool false, .string (M.bs kB), .string ⟨#[]⟩, .bool false] 71) = W5 at *
  refine (QE' _ _ hv (hT.bel (bb4.tr bW))).mono ?_
  rintro e w6 ⟨rfl, b6⟩
  have bb6 := (bb4.tr bW).tr b6
  clear hv bW b6 bb4 QE'
  go_wp2_with fail
  refine (QW _ (hT.bel bb6)).mono ?_
  rintro e w7 ⟨rfl, b7⟩
  go_wp2_with fail
  refine (QP _).mono ?_
  rintro e w8 ⟨rfl, b8⟩
  go_wp2_with fail
  refine (QG _).mono ?_
  rintro e w9 ⟨rfl, rfl⟩
  go_wp2_with fail
  go_ret
  exact ⟨rfl, (bb6.tr b7).tr b8⟩
theorem M.pgOf_ok (L : List TV) (n : Int) (h0 : 0 ≤ n) (h : n ≤ 70000) : (M.encode (pgOf L n)).2 = 0 := by
  have hs : ∀ e ∈ (pgOf L n).es, e.1.length ≤ 20 ∧ e.2.1.length = 1 := by
    intro e he
    obtain ⟨x, _, rfl⟩ := List.mem_map.1 he
    have h1 : (M.put (x.2.1 % 256) 1).length = 1 := M.put_length (x.2.1 % 256) 1 (by omega) (by omega) (by omega) (by omega)
    simp only [ent1, List.length_take]; omega
  have hl : (pgOf L n).es.length ≤ 8 := by simp only [pgOf, List.length_map, List.length_take]; omega
  have hsz : ∀ K : List M.En, (∀ e ∈ K, e.1.length ≤ 20 ∧ e.2.1.length = 1) → M.szs K ≤ K.length * 24 := by
    intro K
    induction K with
    | nil => intro _; simp [M.szs]
    | cons e K ih =>
      intro h
      have h1 := ih (fun x hx => h x (by simp [hx]))
      have h2 := h e (by simp)
      simp only [M.szs, M.szE, List.length_cons]; omega
  have h1 := hsz _ hs
  have hin : M.inB (pgOf L n) = true := by
    have he : (pgOf L n).es.any M.longE = false := by
      rw [List.any_eq_false]
      intro e he
      have := hs e he
      unfold M.longE
      rw [decide_eq_false (by omega), decide_eq_false (by omega)]; simp
    have b1 : M.btw 0 n 281474976710655 = true := by rw [M.btw_iff]; omega
    unfold M.inB
    rw [he]
    show (M.btw 0 n 281474976710655 && M.btw 1 3 255 && M.btw 0 0 255 && M.btw 0 0 65535 && decide (0 ≤ 64) && !false) = true
    rw [b1]; rfl
  have hf : ¬ M.free (pgOf L n) < 0 := by
    unfold M.free
    have : (pgOf L n).high.length = 0 := rfl
    omega
  unfold M.encode
  rw [if_pos hin, if_neg hf]
set_option maxHeartbeats 8000000 in
theorem patched_any (L K : List TV) (n0 : Int) (a b : Option Addr) (c d : Nat) (w : World) (hT : Tab w) (hL : L.length ≤ maxLen) (hK : K.length ≤ maxLen) (hv : L = [] ∨ ∃ g off, a = some ⟨g, off, none⟩ ∧ RowV w g off L) (hu : K = [] ∨ ∃ g off, b = some ⟨g, off, none⟩ ∧ RowV w g off K)
    (hs : ∀ x ∈ L, x.1.length ≤ maxLen) (ht : ∀ x ∈ K, x.1.length ≤ maxLen) :
    Calls Tryd.prog 10 #[.slice a L.length c, .slice b K.length d, .int .i64 n0] w fun e w' => e = .returned (.bool true) ∧ Bel w w' := by
  have hm : bits BinOp.and IntKind.i64 n0 65535 = n0 % 65536 := and_mask n0 16 (by omega)
  have hn0 : 0 ≤ n0 % 65536 ∧ n0 % 65536 < 65536 := by omega
  obtain ⟨n, hn⟩ : ∃ n, n = 1 + n0 % 65536 := ⟨_, rfl⟩
  have w1 : IntKind.i64.wrap (1 + n0 % 65536) = n := by rw [IntKind.wrap_i64]; omega
  have hn1 : 1 ≤ n ∧ n ≤ 65536 := by omega
  have w2 : IntKind.i64.wrap (n + 1) = n + 1 := by rw [IntKind.wrap_i64]; omega
  obtain ⟨oA, _, eA, lA, bA⟩ := M.encode_ok (M.pgOf_ok L n (by omega) (by omega))
  obtain ⟨oB, _, eB, lB, bB⟩ := M.encode_ok (M.pgOf_ok K (n + 1) (by omega) (by omega))
  have hbA : M.bodyL (M.encode (pgOf L n)).1 = M.body (pgOf L n) := by rw [eA, M.bodyL_build _ _ lA bA]
  have hbB : M.bodyL (M.encode (pgOf K (n + 1))).1 = M.body (pgOf K (n + 1)) := by rw [eB, M.bodyL_build _ _ lB bB]
  have HA := fun W (h : Bel w W) => mk_any L n a c W (hT.bel h) (hv.imp id (fun ⟨g, off, e, r⟩ => ⟨g, off, e, r.bel h⟩)) hL hs (by omega)
  have HB := fun W (h : Bel w W) => mk_any K (n + 1) b d W (hT.bel h) (hu.imp id (fun ⟨g, off, e, r⟩ => ⟨g, off, e, r.bel h⟩)) hK ht (by omega)
  have HYA := fun W => body_any (M.encode (pgOf L n)).1 W
  rw [hbA] at HYA
  have HYB := fun W => body_any (M.encode (pgOf K (n + 1))).1 W
  rw [hbB] at HYB
  have eB' : M.build (n + 1) (M.body (pgOf K (n + 1))) = (M.encode (pgOf K (n + 1))).1 := eB.symm
  generalize (M.encode (pgOf L n)).1 = EA at *
  generalize (M.encode (pgOf K (n + 1))).1 = EB at *
  generalize M.body (pgOf L n) = YA at *
  generalize M.body (pgOf K (n + 1)) = YB at *
  have hr := Pt.M.diff_right YA YB
  have hl := Pt.M.diff_length YA YB
  have hp := Pt.putP_diff YA YB 496 (by omega)
  have hsm := Pt.diff_small YA YB 496 (by omega)
  have HD := fun W => Pt.diff_any YA YB W (by omega) (by omega)
  have HP := fun x W hv => Pt.putP_any (Pt.M.diff YA YB) x W hv (by omega) (fun p hp => by have := hsm p hp; omega)
  have HG := fun W => Pt.getP_any (Pt.M.putP (Pt.M.diff YA YB)) W (by omega)
  have hgp := Pt.M.getP_putP (Pt.M.diff YA YB) [] hr hl.2
  rw [List.append_nil] at hgp
  rw [hgp] at HG
  have HY := fun x W hv => Pt.apply_any YA (Pt.M.diff YA YB) x W hv (by omega) (fun p hp => by have := hsm p hp; omega) (by omega)
  rw [Pt.M.apply_diff YA YB (by omega) (by omega)] at HY
  have HU := fun W t => build_any (n + 1) YB W t (by omega) (by omega)
  rw [eB'] at HU
  have hzp : (Pt.M.bs (Pt.M.putP (Pt.M.diff YA YB))).size = (Pt.M.putP (Pt.M.diff YA YB)).length := Pt.M.bs_size _
  generalize Pt.M.diff YA YB = D at *
  generalize (Pt.M.putP D).length = np at *
  generalize Pt.M.bs (Pt.M.putP D) = PB at *
  clear hv hu hs ht hL hK oA eA lA bA oB eB lB bB hbA hbB eB' hr hl hp hsm hgp hn hn0
  go_enter Tryd.func10, Tryd.ntmps10
  go_wp2_with fail
  refine (orders_any _ hT).mono ?_
  rintro e v1 ⟨rfl, b1⟩
  go_wp2_with fail
  refine (HA _ b1).mono ?_
  rintro e v2 ⟨rfl, b2⟩
  have bb2 := b1.tr b2
  clear b1 b2 HA
  go_wp2_with fail
  refine (HB _ bb2).mono ?_
  rintro e v3 ⟨rfl, b3⟩
  have bb3 := bb2.tr b3
  clear bb2 b3 HB
  go_wp2_with fail
  refine (HYA _).mono ?_
  rintro e v4 ⟨rfl, rfl⟩
  go_wp2_with fail
  refine (HYB _).mono ?_
  rintro e v4 ⟨rfl, rfl⟩
  go_wp2_with fail
  refine (HD _).mono ?_
  rintro e v5 ⟨x5, rfl, o5, b5⟩
  have bb5 : Bel w v5 := bb3.tr b5
  clear bb3 b5 HD
  go_wp2_with fail
  refine (HP _ _ o5.vals).mono ?_
  rintro e v6 ⟨rfl, b6⟩
  have bb6 : Bel w v6 := bb5.tr b6
  have o6 := o5.bel b6
  clear bb5 b6 o5
  go_wp2_with fail
  refine (HG _).mono ?_
  rintro e v7 ⟨x7, rfl, o7, b7⟩
  have bb7 : Bel w v7 := bb6.tr b7
  have o8 := o6.bel b7
  clear bb6 b7 o6
  obtain ⟨ao, cap, rfl, _⟩ := id o8.vals
  obtain ⟨ao2, cap2, rfl, _⟩ := id o7.vals
  go_wp2_with fail
  refine (HYA _).mono ?_
  rintro e v8 ⟨rfl, rfl⟩
  go_wp2_with fail
  refine (HY _ _ o7.vals).mono ?_
  rintro e v8 ⟨rfl, b8⟩
  have bb8 : Bel w v8 := bb7.tr b8
  have o9 := o8.bel b8
  clear bb7 b8 o7 o8
  have hq : (((np : Nat) : Int) == (np : Int)) = true := by simp
  go_wp2_with fail
  refine (HP _ _ o9.vals).mono ?_
  rintro e v9 ⟨rfl, b9⟩
  have bb9 : Bel w v9 := bb8.tr b9
  clear bb8 b9 o9
  go_wp2_with fail
  refine (HU _ (hT.bel bb9)).mono ?_
  rintro e v10 ⟨rfl, b10⟩
  go_wp2_with fail
  go_ret
  exact ⟨by simp, bb9.tr b10⟩
end Go.Proofs.YtaepbmcmggnmpaaDoor
