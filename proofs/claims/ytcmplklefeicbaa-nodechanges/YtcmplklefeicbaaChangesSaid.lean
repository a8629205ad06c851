/-
  For every raw node x, every entry e and every bool, the law NodeChanges returns true: an entry that is put into any node, marked and removed gives what the document says, and the node is as it was.
  Conditions: none beyond the row's own.
-/
import Derived.Test.YtcmplklefeicbaaRows
import Derived.ProofKit
import Derived.OpenShut
import Derived.ShutString
import Derived.Carry
import Derived.Test.YtcmplklefeicbaaFP
import Derived.Test.YtcmplklefeicbaaGE
namespace Go.Proofs.Ytcmplklefeicbaa.nodeChanges
open Go.ChangeShapes Go.WideShapes Go.ChangeAt Go.RowKit
open Go.ChangeMaps (open_string shut_string)

theorem own : ownKnob Try.prog.godebug = none := by kernel_rfl
theorem laidOut : laidOutB Try.prog = true := by kernel_rfl

set_option maxRecDepth 100000 in
theorem lifted (os : Os) (started : os.Started) (H : Type) (enc : TypeId × Value → H) :
    ReturnsInHanded {} Try.checked os 3 .any (Rows.nodeChangesSpec.pre6 enc Try.prog Try.f3 Rows.nodeChangesRow.domain false) (Rows.nodeChangesSpec.post enc Try.prog Try.f3 false true false false) := by
  refine returnsInHanded_of_change (C := Try.checked) own started (by kernel_rfl) Try.func3
    (ChangeSpec.witness6 (enc := enc) (C := Try.checked) false ⟨#[], #[.agg #[.int .i64 0, .int .i64 0, .string ByteArray.empty, .slice none 0 0, .bool false], .agg #[.string ByteArray.empty, .string ByteArray.empty, .bool false], .bool false], []⟩ 8 (by kernel_rfl) (by kernel_rfl) (by kernel_rfl) (by kernel_rfl)) ?_
  intro W base args ds gs before hval0 hW hcnd _
  have hval : ∀ (j : Nat) t v, Try.f3.params[j]? = some t → args[j]? = some v → Value.okWide Try.prog W .any base t v := hval0
  have hW' := hW
  obtain ⟨p, q, hA0, hV, rfl, hfz, hnd⟩ := hW
  have hA : DataW.TrodAll enc Try.prog W 0 (fun _ => true) true Try.f3.params.toList args.toList ds p := hA0
  rw [Try.params3] at hA hval
  obtain ⟨v0, vs0, d0, ds0, p0, q0, hargs, rfl, rfl, h0, r0⟩ := trodAll_cons hA
  obtain ⟨v1, vs1, d1, ds1, p1, q1, rfl, rfl, rfl, h1, r1⟩ := trodAll_cons r0
  obtain ⟨v2, vs2, d2, ds2, p2, q2, rfl, rfl, rfl, h2, r2⟩ := trodAll_cons r1
  obtain ⟨rfl, rfl, rfl⟩ := trodAll_nil r2
  obtain rfl : args = #[v0, v1, v2] := by cases args; simp_all
  obtain ⟨rfl, rfl⟩ := trodVars_none hV
  obtain ⟨L0, b0, c0, rfl, w0, s0⟩ := open_raw (hval 0 24 v0 rfl rfl) h0
  obtain ⟨L1, b1, c1, rfl, w1, s1⟩ := open_ent (hval 1 26 v1 rfl rfl) h1
  obtain ⟨L2, b2, c2, rfl, w2, s2⟩ := open_flag (hval 2 4 v2 rfl rfl) h2
  clear hA0 hval0
  refine (changes_any L0.1 L0.2.1 L0.2.2.1 L0.2.2.2.1 b0 c0 L0.2.2.2.2 L1.1 L1.2.1 L1.2.2 L2 W w0 s0.1 s0.2.1 s0.2.2 w1 s1).mono fun e W' ⟨he, hg⟩ => ?_
  subst he
  exact ⟨_, rfl, _, _, _, [], p0 ++ (p1 ++ (p2 ++ [])), [], hW', (trodAll_cons_mk (shut_bool Try.underlying4 _) trodAll_mk0), (trodAll_cons_mk (Below.trod laidOut (by kernel_rfl) (of_decide_eq_true (by kernel_rfl)) h0 hg (fun x hx => by have := hW'.lt x (by simp [hx]); simpa using this)) (trodAll_cons_mk (Below.trod laidOut (by kernel_rfl) (of_decide_eq_true (by kernel_rfl)) h1 hg (fun x hx => by have := hW'.lt x (by simp [hx]); simpa using this)) (trodAll_cons_mk (Below.trod laidOut (by kernel_rfl) (of_decide_eq_true (by kernel_rfl)) h2 hg (fun x hx => by have := hW'.lt x (by simp [hx]); simpa using this)) trodAll_mk0))), rfl, hg.frame _, fun h => by cases h⟩

theorem over : Rows.nodeChangesRow.holds Try.pinned (OpenSpec.ofChange Rows.nodeChangesSpec) :=
  OpenClaim.holds_of_wide 3 Try.f3 rfl rfl rfl rfl rfl rfl rfl ⟨rfl, rfl, rfl, rfl, rfl⟩ rfl rfl rfl rfl rfl (by kernel_rfl) Try.func3 (by kernel_rfl)
    (of_decide_eq_true (by kernel_rfl)) (by unfold Func.isWrapper; first | (rw [if_pos (by decide +kernel)]; kernel_rfl) | (rw [if_neg (by decide +kernel)]; exact ⟨rfl, rfl⟩))
    (fun os started H enc _ => lifted os started H enc)
end Go.Proofs.Ytcmplklefeicbaa.nodeChanges
namespace Go.Proofs.Ytcmplklefeicbaa
theorem nodeChanges_proved : Rows.NodeChangesSaid := nodeChanges.over
#print axioms nodeChanges_proved
end Go.Proofs.Ytcmplklefeicbaa
