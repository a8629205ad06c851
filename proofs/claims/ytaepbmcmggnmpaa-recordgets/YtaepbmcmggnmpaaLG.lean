/-
  The law RecordGets, walked.
-/
import Derived.Test.YtaepbmcmggnmpaaSA
import Derived.Test.YtaepbmcmggnmpaaSP
import Derived.Test.YtaepbmcmggnmpaaGM
namespace Go.Proofs.Ytaepbmcmggnmpaa
open Go.RowKit
set_option maxRecDepth 100000

set_option maxHeartbeats 4000000 in
theorem gets_any (sb : ByteArray) (w : World) (hsb : sb.size ≤ maxLen) : Calls Try.prog 4 #[.string sb] w fun e w' => e = .returned (.bool true) ∧ Bel w w' := by
  obtain ⟨s, rfl⟩ : ∃ s, sb = M.bs s := ⟨sb.data.toList, (M.bs_of sb).symm⟩
  have hz : (M.bs s).size = s.length := M.bs_size s
  rw [hz] at hsb
  unfold maxLen at hsb
  by_cases hbig : 17000 < s.length
  · go_enter Try.func4, Try.ntmps4
    go_wp2_with fail
    refine (speaks_any _).mono ?_
    rintro e w1 ⟨rfl, b1⟩
    go_wp2_with fail
    go_ret
    exact ⟨rfl, b1⟩
  · have H1 := fun W => getR_any s W (by omega)
    have H2 := fun W => rgetR_any s W (by omega)
    have hsm := M.getR_small s
    have HPG : Hid ((M.getR s).2 = 0 → M.putR (M.getR s).1 = (s, 0)) := fun h => M.putR_getR s (M.getR s).1 (by rw [← h])
    have H3 := fun W x hv => putR_any (M.getR s).1 x W hsm hv
    have H4 := fun W x y hx hy => same_yes (M.getR s).1 x y W hx hy hsm.pages (fun c hc => (hsm.each c hc).1)
    generalize (M.getR s).2 = cd at *
    generalize hrr : (M.getR s).1 = rr at *
    clear hrr hsm
    obtain ⟨lsn, txn, kind, undo, undone, pages⟩ := rr
    simp only at H1 H2 H3 H4 HPG
    go_enter Try.func4, Try.ntmps4
    go_wp2_with fail
    refine (speaks_any _).mono ?_
    rintro e w1 ⟨rfl, b1⟩
    go_wp2_with fail
    refine (H1 _).mono ?_
    rintro e w2 ⟨x, Q, rfl, hq, o2, p2, b2⟩
    have hv2 := o2.vals p2
    rw [hq] at hv2
    obtain ⟨ax, cx, rfl, _⟩ := id hv2
    clear o2 p2 hq Q
    have hb3 : Bel w2 (w2.alloc (.cells #[.int .i64 lsn, .int .i64 txn, .int .i64 kind, .string (M.bs undo), .int .i64 undone, .slice ax pages.length cx] 29)) := Bel.al (Below.refl _ _) _
    have c3 : Bt 29 (w2.alloc (.cells #[.int .i64 lsn, .int .i64 txn, .int .i64 kind, .string (M.bs undo), .int .i64 undone, .slice ax pages.length cx] 29)) w2.heap.size (.int .i64 lsn) (.int .i64 txn) (.int .i64 kind) (.string (M.bs undo)) (.int .i64 undone) (.slice ax pages.length cx) := heap_alloc_new w2 _
    go_wp2_with fail
    refine (H2 _).mono ?_
    rintro e w4 ⟨y, Q, rfl, hq, o4, p4, b4⟩
    have hw4 := o4.vals p4
    rw [hq] at hw4
    obtain ⟨ay, cy, rfl, _⟩ := id hw4
    clear o4 p4 hq Q
    have hb5 : Bel w4 (w4.alloc (.cells #[.int .i64 lsn, .int .i64 txn, .int .i64 kind, .string (M.bs undo), .int .i64 undone, .slice ay pages.length cy] 32)) := Bel.al (Below.refl _ _) _
    have d5 : Bt 32 (w4.alloc (.cells #[.int .i64 lsn, .int .i64 txn, .int .i64 kind, .string (M.bs undo), .int .i64 undone, .slice ay pages.length cy] 32)) w4.heap.size (.int .i64 lsn) (.int .i64 txn) (.int .i64 kind) (.string (M.bs undo)) (.int .i64 undone) (.slice ay pages.length cy) := heap_alloc_new w4 _
    have c5 := (c3.bel b4).bel hb5
    have hv5 := ((hv2.bel hb3).bel b4).bel hb5
    have hw5 := hw4.bel hb5
    have bb5 := ((((b1.tr b2).tr hb3).tr b4).tr hb5)
    obtain ⟨s0, s1, s2, s3, s4, s5⟩ := c5.cells
    obtain ⟨t0, t1, t2, t3, t4, t5⟩ := d5.cells
    clear c3 hb3 hb5 hv2 hw4 b1 b2 b4 H1 H2 d5
    go_wp2_with fail
    refine (H4 _ _ _ hv5 hw5).mono ?_
    rintro e w6 ⟨rfl, b6⟩
    obtain ⟨s0, s1, s2, s3, s4, s5⟩ := (c5.bel b6).cells
    have hv6 := hv5.bel b6
    clear hv5 hw5 c5
    go_wp2_with fail
    refine (H3 _ _ hv6).mono ?_
    rintro e w7 ⟨rfl, b7⟩
    have bb7 := (bb5.tr b6).tr b7
    by_cases hcd : cd = 0
    · subst hcd
      rw [HPG.out rfl]
      go_wp2_with fail
      go_ret
      exact ⟨rfl, bb7⟩
    · have qc : ((cd : Int) != 0) = true := by first | (simp; done) | (simp; omega)
      have qc2 : ¬ ((cd : Int) = 0) := by omega
      go_wp2_with fail
      go_ret
      exact ⟨rfl, bb7⟩
end Go.Proofs.Ytaepbmcmggnmpaa
