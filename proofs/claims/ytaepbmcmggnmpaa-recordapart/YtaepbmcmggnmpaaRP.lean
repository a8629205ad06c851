/-
  The contract of the document's own Put (concordanceref07), walked.
-/
import Derived.Test.YtaepbmcmggnmpaaSA
import Derived.Test.YtaepbmcmggnmpaaJ
namespace Go.Proofs.Ytaepbmcmggnmpaa
open Go.RowKit
set_option maxRecDepth 100000

set_option maxHeartbeats 8000000 in
theorem rputR_any (r : M.Rec) (x : Value) (w : World) (hs : SmR r) (hv : ValC w x r.pages) :
    Calls Try.prog 10 #[rv r x] w fun e w' => e = .returned (.tuple #[.string (M.bs (M.putR r).1), .int .i64 ((M.putR r).2 : Int)]) ∧ Bel w w' := by
  have HN : Hid (¬ M.inB r = true → M.putR r = ([], 1)) := fun h => by unfold M.putR; rw [if_neg h]
  have HY : Hid (M.inB r = true → M.putR r = if 16384 < (M.recB r).length then ([], 6) else (M.recB r, 0)) := fun h => by unfold M.putR; rw [if_pos h]
  have HI : Hid (M.inB r = true ↔ _) := M.inB_iff r
  have HH : Hid (M.recB r = M.headB r ++ r.pages.flatMap M.chB) := rfl
  have HD : Hid (M.headB r = M.put r.lsn 6 ++ M.put r.txn 6 ++ M.put r.kind 1 ++ (M.frm r.undo ++ M.put r.undone 2 ++ M.put r.pages.length 1)) := rfl
  have hu := hs.undo
  have hp := hs.pages
  have he := hs.each
  generalize M.putR r = PR at *
  generalize M.recB r = RB at *
  generalize M.headB r = HB at *
  generalize M.inB r = IB at *
  obtain ⟨lsn, txn, kind, undo, undone, pages⟩ := r
  simp only at HI HH HD hu hp he hv ⊢
  obtain ⟨ax, cx, rfl, _⟩ := id hv
  have zu : (M.bs undo).size = undo.length := M.bs_size undo
  clear hs
  have bW : Bel w (w.alloc (.cells #[.int .i64 lsn, .int .i64 txn, .int .i64 kind, .string (M.bs undo), .int .i64 undone, .slice ax pages.length cx] 32)) := Bel.al (Below.refl _ _) _
  by_cases h0 : lsn < 0
  · have HF := hid (HN.out (fun h => by have := HI.out.1 h; omega))
    clear hv he
    go_enter Try.func10, Try.ntmps10
    go_wp2_with fail
    go_ret2
    exact ⟨by rw [HF.out]; rfl, bW⟩
  by_cases h1 : 281474976710656 ≤ lsn
  · have HF := hid (HN.out (fun h => by have := HI.out.1 h; omega))
    clear hv he
    go_enter Try.func10, Try.ntmps10
    go_wp2_with fail
    go_ret2
    exact ⟨by rw [HF.out]; rfl, bW⟩
  by_cases h2 : txn < 0
  · have HF := hid (HN.out (fun h => by have := HI.out.1 h; omega))
    clear hv he
    go_enter Try.func10, Try.ntmps10
    go_wp2_with fail
    go_ret2
    exact ⟨by rw [HF.out]; rfl, bW⟩
  by_cases h3 : 281474976710656 ≤ txn
  · have HF := hid (HN.out (fun h => by have := HI.out.1 h; omega))
    clear hv he
    go_enter Try.func10, Try.ntmps10
    go_wp2_with fail
    go_ret2
    exact ⟨by rw [HF.out]; rfl, bW⟩
  by_cases h4 : kind < 1
  · have HF := hid (HN.out (fun h => by have := HI.out.1 h; omega))
    clear hv he
    go_enter Try.func10, Try.ntmps10
    go_wp2_with fail
    go_ret2
    exact ⟨by rw [HF.out]; rfl, bW⟩
  by_cases h5 : 4 < kind
  · have HF := hid (HN.out (fun h => by have := HI.out.1 h; omega))
    clear hv he
    go_enter Try.func10, Try.ntmps10
    go_wp2_with fail
    go_ret2
    exact ⟨by rw [HF.out]; rfl, bW⟩
  by_cases h6 : (65535 : Int) < (undo.length : Int)
  · have HF := hid (HN.out (fun h => by have := HI.out.1 h; omega))
    clear hv he
    go_enter Try.func10, Try.ntmps10
    go_wp2_with fail
    go_ret2
    exact ⟨by rw [HF.out]; rfl, bW⟩
  by_cases h7 : undone < 0
  · have HF := hid (HN.out (fun h => by have := HI.out.1 h; omega))
    clear hv he
    go_enter Try.func10, Try.ntmps10
    go_wp2_with fail
    go_ret2
    exact ⟨by rw [HF.out]; rfl, bW⟩
  by_cases h8 : 65535 < undone
  · have HF := hid (HN.out (fun h => by have := HI.out.1 h; omega))
    clear hv he
    go_enter Try.func10, Try.ntmps10
    go_wp2_with fail
    go_ret2
    exact ⟨by rw [HF.out]; rfl, bW⟩
  by_cases h9 : (255 : Int) < (pages.length : Int)
  · have HF := hid (HN.out (fun h => by have := HI.out.1 h; omega))
    clear hv he
    go_enter Try.func10, Try.ntmps10
    go_wp2_with fail
    go_ret2
    exact ⟨by rw [HF.out]; rfl, bW⟩
  have hv := hid (hv.bel bW)
  have g0 : Bt 32 (w.alloc (.cells #[.int .i64 lsn, .int .i64 txn, .int .i64 kind, .string (M.bs undo), .int .i64 undone, .slice ax pages.length cx] 32)) w.heap.size (.int .i64 lsn) (.int .i64 txn) (.int .i64 kind) (.string (M.bs undo)) (.int .i64 undone) (.slice ax pages.length cx) := heap_alloc_new w _
  have l1 : (M.put lsn 6).length = 6 := (M.put_len lsn 6 (by omega) (by omega) (by omega) (by omega)).2
  have l2 : (M.put txn 6).length = 6 := (M.put_len txn 6 (by omega) (by omega) (by omega) (by omega)).2
  have l3 : (M.put kind 1).length = 1 := (M.put_len kind 1 (by omega) (by omega) (by omega) (by omega)).2
  have l4 : (M.put (undo.length : Int) 2).length = 2 := M.put_two_len _ (by omega) (by omega)
  have l5 : (M.put undone 2).length = 2 := M.put_two_len _ (by omega) (by omega)
  have l6 : (M.put (pages.length : Int) 1).length = 1 := (M.put_len (pages.length : Int) 1 (by omega) (by omega) (by omega) (by omega)).2
  have hlen : HB.length = 18 + undo.length := by
    rw [HD.out]; unfold M.frm
    simp only [List.length_append]; omega
  have Hp : ∀ n z : Int, ((n = lsn ∧ z = 6) ∨ (n = txn ∧ z = 6) ∨ (n = kind ∧ z = 1) ∨ (n = (undo.length : Int) ∧ z = 2) ∨ (n = undone ∧ z = 2) ∨ (n = (pages.length : Int) ∧ z = 1)) → ∀ W, Calls Try.prog 25 #[.int .i64 n, .int .i64 z] W fun e w' => e = .returned (.string (M.bs (M.put n z))) ∧ Bel W w' := fun n z hn W => rput_any n z W (by omega)
  have z1 : (M.bs (M.put lsn 6)).size = 6 := by rw [M.bs_size]; exact l1
  have z2 : (M.bs (M.put txn 6)).size = 6 := by rw [M.bs_size]; exact l2
  have z3 : (M.bs (M.put kind 1)).size = 1 := by rw [M.bs_size]; exact l3
  have z4 : (M.bs (M.put (undo.length : Int) 2)).size = 2 := by rw [M.bs_size]; exact l4
  have z5 : (M.bs (M.put undone 2)).size = 2 := by rw [M.bs_size]; exact l5
  have z6 : (M.bs (M.put (pages.length : Int) 1)).size = 1 := by rw [M.bs_size]; exact l6
  have HE : Hid (M.bs (M.put lsn 6) ++ M.bs (M.put txn 6) ++ M.bs (M.put kind 1) ++ M.bs (M.put (undo.length : Int) 2) ++ M.bs undo ++ M.bs (M.put undone 2) ++ M.bs (M.put (pages.length : Int) 1) = M.bs HB) := by
    show _ = _
    rw [HD.out]; unfold M.frm
    simp only [M.bs_append, List.append_assoc]
  have zz1 : (M.bs (M.put lsn 6) ++ M.bs (M.put txn 6)).size = 12 := by rw [ByteArray.size_append]; omega
  have zz2 : (M.bs (M.put lsn 6) ++ M.bs (M.put txn 6) ++ M.bs (M.put kind 1)).size = 13 := by rw [ByteArray.size_append]; omega
  have zz3 : (M.bs (M.put lsn 6) ++ M.bs (M.put txn 6) ++ M.bs (M.put kind 1) ++ M.bs (M.put (undo.length : Int) 2)).size = 15 := by rw [ByteArray.size_append]; omega
  have zz4 : (M.bs (M.put lsn 6) ++ M.bs (M.put txn 6) ++ M.bs (M.put kind 1) ++ M.bs (M.put (undo.length : Int) 2) ++ M.bs undo).size = 15 + undo.length := by rw [ByteArray.size_append]; omega
  have zz5 : (M.bs (M.put lsn 6) ++ M.bs (M.put txn 6) ++ M.bs (M.put kind 1) ++ M.bs (M.put (undo.length : Int) 2) ++ M.bs undo ++ M.bs (M.put undone 2)).size = 17 + undo.length := by rw [ByteArray.size_append]; omega
  have q1 : ¬ 9223372036854775807 < 15 + undo.length := by omega
  have q2 : ¬ 9223372036854775807 < 15 + undo.length + 2 := by omega
  have q3 : ¬ 9223372036854775807 < 17 + undo.length + 1 := by omega
  have q4 : ¬ 9223372036854775807 < 17 + undo.length := by omega
  have q5 : ¬ 9223372036854775807 < 18 + undo.length := by omega
  go_enter Try.func10, Try.ntmps10
  go_wp2_with fail
  have hbx := bW.dr
  have hzx : w.heap.size < (w.alloc (.cells #[.int .i64 lsn, .int .i64 txn, .int .i64 kind, .string (M.bs undo), .int .i64 undone, .slice ax pages.length cx] 32)).drew.heap.size := by simp
  have hbk : Bt 32 (w.alloc (.cells #[.int .i64 lsn, .int .i64 txn, .int .i64 kind, .string (M.bs undo), .int .i64 undone, .slice ax pages.length cx] 32)).drew w.heap.size (.int .i64 lsn) (.int .i64 txn) (.int .i64 kind) (.string (M.bs undo)) (.int .i64 undone) (.slice ax pages.length cx) := g0
  have hv := hid (hv.out.bel (Bel.dr (Below.refl _ _)))
  obtain ⟨e0, e1, e2, e3, e4, e5⟩ := hbk.cells
  go_region_held3 (fun w' => w'.cell? ⟨w.heap.size, 0, none⟩ = some (.int .i64 lsn) ∧ w'.cell? ⟨w.heap.size, 1, none⟩ = some (.int .i64 txn) ∧ w'.cell? ⟨w.heap.size, 2, none⟩ = some (.int .i64 kind) ∧ w'.cell? ⟨w.heap.size, 3, none⟩ = some (.string (M.bs undo)) ∧ w'.cell? ⟨w.heap.size, 4, none⟩ = some (.int .i64 undone) ∧ w'.cell? ⟨w.heap.size, 5, none⟩ = some (.slice ax pages.length cx)) (go_keep)
    (first
      | (go_at_call 25; refine (Hp _ _ (by first | exact .inl ⟨rfl, rfl⟩ | exact .inr (.inl ⟨rfl, rfl⟩) | exact .inr (.inr (.inl ⟨rfl, rfl⟩)) | exact .inr (.inr (.inr (.inl ⟨rfl, rfl⟩))) | exact .inr (.inr (.inr (.inr (.inl ⟨rfl, rfl⟩)))) | exact .inr (.inr (.inr (.inr (.inr ⟨rfl, rfl⟩))))) _).mono ?_; rintro e w4 ⟨rfl, b4⟩; have hc0 := bel_cell b4 (g := w.heap.size) hzx; have hbx := hbx.tr b4; have hbk := hbk.bel b4; have hv := hid (hv.out.bel b4); have hzx := Nat.lt_of_lt_of_le hzx b4.size))
  rw [HE.out]
  clear HE z1 z2 z3 z4 z5 z6 zz1 zz2 zz3 zz4 zz5 q1 q2 q3 q4 q5 l1 l2 l3 l4 l5 l6 Hp e0 e1 e2 e3 e4 e5 hc0 HD bW g0
  have HV := hid hv.out
  have HBK := hid hbk
  have HBX := hid hbx
  clear hv hbk hbx
  go_wp2_with fail
  go_loopw [4, 5] (fun sv i wr => ∃ (k : Nat), k ≤ pages.length ∧ i = .int .i64 k ∧ sv = .string (M.bs (HB ++ (pages.take k).flatMap M.chB)) ∧ (HB ++ (pages.take k).flatMap M.chB).length ≤ 100000 + k * 86000000 ∧ (∀ c ∈ pages.take k, (0 ≤ c.1 ∧ c.1 ≤ 65535) ∧ M.right c.2 = true) ∧ Bel w4 wr) (fun _ i _ => pages.length - (intOf i).toNat)
  case atStart => exact ⟨0, Nat.zero_le _, rfl, by simp, by simp; omega, by simp, Below.refl _ _⟩
  case round =>
    obtain ⟨k, hk, rfl, rfl, hle, hok, hb⟩ := hrel
    have x5 := (HBK.out.bel hb).cells.2.2.2.2.2
    have HXT : Hid (∀ h : k < pages.length, HB ++ (pages.take (k + 1)).flatMap M.chB = HB ++ (pages.take k).flatMap M.chB ++ M.chB pages[k]) := fun h => by rw [List.take_succ_eq_append_getElem h, List.flatMap_append, List.flatMap_cons, List.flatMap_nil, List.append_nil, List.append_assoc]
    have HXF : Hid (pages.length ≤ k → HB ++ (pages.take k).flatMap M.chB = RB) := fun h => by rw [List.take_of_length_le h, HH.out]
    have HXK : Hid (∀ h : k < pages.length, ((0 ≤ pages[k].1 ∧ pages[k].1 ≤ 65535) ∧ M.right pages[k].2 = true) → ∀ c ∈ pages.take (k + 1), (0 ≤ c.1 ∧ c.1 ≤ 65535) ∧ M.right c.2 = true) := fun h hg c hc => by
      rw [List.take_succ_eq_append_getElem h] at hc
      rcases List.mem_append.1 hc with hc | hc
      · exact hok c hc
      · simp at hc; subst hc; exact hg
    have zA : (M.bs (HB ++ (pages.take k).flatMap M.chB)).size = (HB ++ (pages.take k).flatMap M.chB).length := M.bs_size _
    by_cases hlt : k < pages.length
    · obtain ⟨b, off, rfl, hr⟩ := (HV.out.bel hb).row (by omega)
      obtain ⟨xv, c1, c2, c3⟩ := hr k hlt
      obtain ⟨he1, he2⟩ := he pages[k] (List.getElem_mem hlt)
      have HT := hid (HXT.out hlt)
      have HK := hid (HXK.out hlt)
      have HBad : Hid (¬ ((0 ≤ pages[k].1 ∧ pages[k].1 ≤ 65535) ∧ M.right pages[k].2 = true) → PR = ([], 1)) := fun h => HN.out (fun hi => h ((HI.out.1 hi).2.2.2.2.2.2 pages[k] (List.getElem_mem hlt)))
      clear hr HXT HXK HXF hok
      generalize HB ++ (pages.take k).flatMap M.chB = ACC at *
      generalize pages[k] = c at *
      obtain ⟨pn, pl⟩ := c
      simp only at he1 he2 c1 c2 c3 HK HBad
      obtain ⟨xa, xc, rfl, _⟩ := id c3
      have hv := c3.bel (Bel.al (Below.refl _ wr) (.cells #[.int .i64 pn, .slice xa pl.length xc] 63))
      have hbk : B2 (wr.alloc (.cells #[.int .i64 pn, .slice xa pl.length xc] 63)) wr.heap.size 63 (.int .i64 pn) (.slice xa pl.length xc) := heap_alloc_new wr _
      have bb := (HBX.out.tr hb).al (.cells #[.int .i64 pn, .slice xa pl.length xc] 63)
      by_cases p0 : pn < 0
      · have HF := hid (HBad.out (fun h => by omega))
        go_wp2_with fail
        go_ret2
        exact ⟨by rw [HF.out]; rfl, bb⟩
      · by_cases p1 : 65535 < pn
        · have HF := hid (HBad.out (fun h => by omega))
          go_wp2_with fail
          go_ret2
          exact ⟨by rw [HF.out]; rfl, bb⟩
        · have HR := fun W h => rright_any pl (.slice xa pl.length xc) W h (by omega) (fun p hp => by have := he2 p hp; omega)
          by_cases hr : M.right pl = true
          · have HPt := fun W h => rputP_any pl (.slice xa pl.length xc) W h he1 he2
            rw [hr] at HR
            obtain ⟨pp1, pp2⟩ := M.putP_len pl hr he1 he2
            have HG := hid (HK.out ⟨by omega, hr⟩)
            have lp : (M.put pn 2).length = 2 := M.put_two_len pn (by omega) (by omega)
            have y1 : (M.bs (M.put pn 2)).size = 2 := by rw [M.bs_size]; exact lp
            have y2 : (M.bs (M.putP pl)).size = (M.putP pl).length := M.bs_size _
            have lc : (M.chB (pn, pl)).length = 2 + (M.putP pl).length := by show (M.put pn 2 ++ M.putP pl).length = _; rw [List.length_append, lp]
            have HE : Hid (M.bs ACC ++ (M.bs (M.put pn 2) ++ M.bs (M.putP pl)) = M.bs (ACC ++ M.chB (pn, pl))) := by show _ = _; rw [M.bs_append, M.bs_append]; rfl
            have Hp := fun W => rput_any pn 2 W (by omega)
            have y3 : (M.bs (M.put pn 2) ++ M.bs (M.putP pl)).size = 2 + (M.putP pl).length := by rw [ByteArray.size_append]; omega
            generalize (M.putP pl).length = m at *
            have q1 : ¬ 9223372036854775807 < 2 + m := by omega
            have q2 : ¬ 9223372036854775807 < ACC.length + (2 + m) := by omega
            clear hr HBad HK
            go_wp2_with fail
            refine (HR _ hv).mono ?_
            rintro e w5 ⟨rfl, b5⟩
            have hv5 := hv.bel b5
            have hbk5 := hbk.bel b5
            have bb5 := (hb.al (.cells #[.int .i64 pn, .slice xa pl.length xc] 63)).tr b5
            clear hv hbk bb
            go_wp2_with fail
            have hv := hid (hv5.bel (Bel.dr (Below.refl _ w5)))
            have hbk : B2 w5.drew wr.heap.size 63 (.int .i64 pn) (.slice xa pl.length xc) := hbk5
            have hbx := bb5.dr
            have hzx : wr.heap.size < w5.drew.heap.size := hbk.lt
            obtain ⟨⟨d0, d1⟩, _⟩ := hbk.cells
            clear hv5 hbk5 bb5
            go_region_held3 (fun w' => w'.cell? ⟨wr.heap.size, 0, none⟩ = some (.int .i64 pn) ∧ w'.cell? ⟨wr.heap.size, 1, none⟩ = some (.slice xa pl.length xc)) (go_keep)
              (first
                | (go_at_call 25; refine (Hp _).mono ?_; rintro e w6 ⟨rfl, b6⟩; have hc0 := bel_cell b6 (g := wr.heap.size) hzx; have hbx := hbx.tr b6; have hv := hid (hv.out.bel b6); have hzx := Nat.lt_of_lt_of_le hzx b6.size)
                | (go_at_call 27; refine (HPt _ hv.out).mono ?_; rintro e w6 ⟨rfl, b6⟩; have hc0 := bel_cell b6 (g := wr.heap.size) hzx; have hbx := hbx.tr b6; have hv := hid (hv.out.bel b6); have hzx := Nat.lt_of_lt_of_le hzx b6.size))
            go_wp2_with fail
            go_roundw
            case rel => exact ⟨k + 1, by omega, by go_num, by rw [HT.out, ← HE.out], by rw [HT.out, List.length_append, lc]; omega, HG.out, hbx⟩
            case measure => simp [intOf]; omega
          · have HF := hid (HBad.out (fun h => hr h.2))
            rw [Bool.not_eq_true] at hr
            rw [hr] at HR
            clear hr
            go_wp2_with fail
            refine (HR _ hv).mono ?_
            rintro e w5 ⟨rfl, b5⟩
            go_wp2_with fail
            go_ret2
            exact ⟨by rw [HF.out]; rfl, bb.tr b5⟩
    · have hI : IB = true := HI.out.2 ⟨by omega, by omega, by omega, by omega, by omega, by omega, by rw [List.take_of_length_le (by omega)] at hok; exact hok⟩
      have HPR := hid (HY.out hI)
      have HRB := hid (HXF.out (by omega))
      clear hI hok HXT HXF HXK
      rw [HRB.out] at zA ⊢
      generalize RB.length = rl at *
      by_cases hbig : 16384 < rl
      · have HF : Hid (PR = ([], 6)) := by show _ = _; rw [HPR.out, if_pos hbig]
        go_wp2_with fail
        go_ret2
        exact ⟨by rw [HF.out]; rfl, HBX.out.tr hb⟩
      · have HF : Hid (PR = (RB, 0)) := by show _ = _; rw [HPR.out, if_neg hbig]
        go_wp2_with fail
        go_ret2
        exact ⟨by rw [HF.out]; rfl, HBX.out.tr hb⟩
end Go.Proofs.Ytaepbmcmggnmpaa
