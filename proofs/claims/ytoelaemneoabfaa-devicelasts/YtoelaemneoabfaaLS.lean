/-
  The law DeviceLasts, at every keep.
-/
import Derived.Test.YtoelaemneoabfaaLQ
import Derived.Test.YtoelaemneoabfaaLR
namespace Go.Proofs.Ytoelaemneoabfaa
open Go.RowKit

theorem lasts_any (L1 : List Act) (a1 : Option Addr) (cap1 : Nat) (L2 : List Act) (a2 : Option Addr) (cap2 : Nat) (K : List Int) (ka : Option Addr) (kcap : Nat) (w : World) (hL1 : L1.length ≤ maxLen) (hs1 : ShowsA w a1 L1) (hL2 : L2.length ≤ maxLen) (hs2 : ShowsA w a2 L2) (hK : K.length ≤ maxLen ∧ K.length ≤ kcap) (hR : ReadsN w (.slice ka K.length kcap) K) :
    Calls Try.prog 4 #[.slice a1 L1.length cap1, .slice a2 L2.length cap2, .slice ka K.length kcap] w fun e w' => e = .returned (.bool true) ∧ Bel w w' := by
  cases ka with
  | none =>
    obtain rfl : K = [] := by
      obtain ⟨a', cap', e, h⟩ := hR
      cases e
      rcases h with h | ⟨_, _, h, _⟩
      · exact h
      · cases h
    exact lasts_none L1 a1 cap1 L2 a2 cap2 kcap w hL1 hs1 hL2 hs2
  | some ka => exact lasts_some L1 a1 cap1 L2 a2 cap2 K ka kcap w hL1 hs1 hL2 hs2 hK.2 hR
end Go.Proofs.Ytoelaemneoabfaa
