/-
  A bool, as it comes in.
-/
import Derived.Test.YtcmplklefeicbaaFO
namespace Go.Proofs.Ytcmplklefeicbaa
open Go.RowKit Go.ChangeShapes Go.WideShapes Go.ChangeAt
theorem open_flag {H : Type} {enc : TypeId × Value → H} {W : World} {base : Nat} {r : Reach} {v : Value} {d : DataW H} {p : List MemPlace} (hv : Value.okWide Try.prog W r base 4 v)
    (_h : DataW.Trod enc Try.prog W 0 (fun _ => true) true 4 v d p) : ∃ (L : Bool) (_ : Unit) (_ : Unit), v = .bool L ∧ True ∧ True := by
  obtain ⟨b, rfl⟩ := okWide_bool Try.underlying4 hv
  exact ⟨b, (), (), rfl, trivial, trivial⟩
end Go.Proofs.Ytcmplklefeicbaa
