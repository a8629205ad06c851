/-
  The contract of the law's 'same' where the two records' heads differ; of any two records.
-/
import Derived.Test.YtaepbmcmggnmpaaSB
namespace Go.Proofs.Ytaepbmcmggnmpaa
open Go.RowKit
set_option maxRecDepth 100000

set_option maxHeartbeats 4000000 in
theorem same_head (lsn txn kind lsn' txn' kind' : Int) (undo undo' : List UInt8) (undone undone' : Int) (pages pages' : List M.Ch) (ax ay : Option Addr) (cx cy : Nat) (w : World) (h : ¬ (lsn = lsn' ∧ txn = txn' ∧ kind = kind' ∧ undo = undo' ∧ undone = undone' ∧ pages'.length = pages.length)) :
    Calls Try.prog 12 #[.agg #[.int .i64 lsn, .int .i64 txn, .int .i64 kind, .string (M.bs undo), .int .i64 undone, .slice ax pages.length cx], .agg #[.int .i64 lsn', .int .i64 txn', .int .i64 kind', .string (M.bs undo'), .int .i64 undone', .slice ay pages'.length cy]] w fun e w' => e = .returned (.bool false) ∧ Bel w w' := by
  have bW : Bel w ((w.alloc (.cells #[.int .i64 lsn, .int .i64 txn, .int .i64 kind, .string (M.bs undo), .int .i64 undone, .slice ax pages.length cx] 29)).alloc (.cells #[.int .i64 lsn', .int .i64 txn', .int .i64 kind', .string (M.bs undo'), .int .i64 undone', .slice ay pages'.length cy] 32)) := Bel.al (Bel.al (Below.refl _ _) _) _
  have HH := hid h
  clear h
  go_enter Try.func12, Try.ntmps12
  by_cases h_lsn : lsn = lsn'
  case neg =>
    have q2 : (lsn != lsn') = true := by simp [h_lsn]
    go_wp2_with fail
    go_ret
    exact ⟨rfl, bW⟩
  subst h_lsn
  by_cases h_txn : txn = txn'
  case neg =>
    have q2 : (txn != txn') = true := by simp [h_txn]
    go_wp2_with fail
    go_ret
    exact ⟨rfl, bW⟩
  subst h_txn
  by_cases h_kind : kind = kind'
  case neg =>
    have q2 : (kind != kind') = true := by simp [h_kind]
    go_wp2_with fail
    go_ret
    exact ⟨rfl, bW⟩
  subst h_kind
  by_cases h_undo : undo = undo'
  case neg =>
    have s1 : ¬ (M.bs undo = M.bs undo') := fun e => h_undo (by have := congrArg (fun b => b.data.toList) e; simpa [M.bs_data] using this)
    have s3 : ¬ ((M.bs undo).toList = (M.bs undo').toList) := by rw [M.bs_toList, M.bs_toList]; exact h_undo
    have s4 : ((M.bs undo).toList == (M.bs undo').toList) = false := by simp [s3]
    go_wp2_with fail
    go_ret
    exact ⟨rfl, bW⟩
  subst h_undo
  by_cases h_undone : undone = undone'
  case neg =>
    have q2 : (undone != undone') = true := by simp [h_undone]
    go_wp2_with fail
    go_ret
    exact ⟨rfl, bW⟩
  subst h_undone
  have hl : ¬ (pages'.length = pages.length) := fun e => HH.out ⟨rfl, rfl, rfl, rfl, rfl, e⟩
  have q1 : ¬ ((pages.length : Int) = (pages'.length : Int)) := by omega
  have q2 : ((pages.length : Int) != (pages'.length : Int)) = true := by simp; omega
  have q3 : ¬ (pages.length = pages'.length) := by omega
  go_wp2_with fail
  go_ret
  exact ⟨rfl, bW⟩
theorem same_any (r r' : M.Rec) (x y : Value) (w : World) (hx : ValC w x r.pages) (hy : ValC w y r'.pages) (hp : r.pages.length ≤ 5000) (he : ∀ c ∈ r.pages, c.2.length ≤ 5000) (he' : ∀ c ∈ r'.pages, c.2.length ≤ 5000) :
    Calls Try.prog 12 #[rv r x, rv r' y] w fun e w' => ∃ b : Bool, e = .returned (.bool b) ∧ (b = true ↔ r = r') ∧ Bel w w' := by
  obtain ⟨lsn, txn, kind, undo, undone, pages⟩ := r
  obtain ⟨lsn', txn', kind', undo', undone', pages'⟩ := r'
  simp only at hx hy hp he he'
  by_cases h : lsn = lsn' ∧ txn = txn' ∧ kind = kind' ∧ undo = undo' ∧ undone = undone' ∧ pages'.length = pages.length
  · obtain ⟨rfl, rfl, rfl, rfl, rfl, hl⟩ := h
    refine (same_loop lsn txn kind undo undone pages pages' x y w hx hy hl hp he he').mono ?_
    rintro e w' ⟨b, rfl, hb, hw⟩
    exact ⟨b, rfl, by rw [hb]; simp, hw⟩
  · obtain ⟨ax, cx, rfl, _⟩ := id hx
    obtain ⟨ay, cy, rfl, _⟩ := id hy
    refine (same_head lsn txn kind lsn' txn' kind' undo undo' undone undone' pages pages' ax ay cx cy w h).mono ?_
    rintro e w' ⟨rfl, hw⟩
    refine ⟨false, rfl, ?_, hw⟩
    simp only [Bool.false_eq_true, false_iff]
    intro e
    simp only [M.Rec.mk.injEq] at e
    obtain ⟨rfl, rfl, rfl, rfl, rfl, rfl⟩ := e
    exact h ⟨rfl, rfl, rfl, rfl, rfl, rfl⟩
end Go.Proofs.Ytaepbmcmggnmpaa
