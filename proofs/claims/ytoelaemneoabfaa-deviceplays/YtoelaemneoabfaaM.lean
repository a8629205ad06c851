/-
  Plain mathematics of layer 3 (device): writes and sectors. Nothing of the program is named here.
-/
import Derived.WalkKit
import Derived.Laws.BytesArg
import Derived.Lib.Strings
namespace Go.Proofs.Ytoelaemneoabfaa.M
open Go.RowKit

/-- Bytes as a string. -/
def bs (l : List UInt8) : ByteArray := ⟨l.toArray⟩
theorem bs_data (l : List UInt8) : (bs l).data.toList = l := rfl
theorem bs_toList (l : List UInt8) : (bs l).toList = l := by rw [ByteArray.toList_eq]; rfl
theorem bs_size (l : List UInt8) : (bs l).size = l.length := by simp [bs, ByteArray.size]
theorem bs_of (s : ByteArray) : bs s.data.toList = s := Lib.mk_data s
theorem bs_inj {a b : List UInt8} (h : bs a = bs b) : a = b := by rw [← bs_data a, h, bs_data]
theorem extract_bs (s : ByteArray) (a b : Nat) : s.extract a b = bs ((s.data.toList.drop a).take (b - a)) := Lib.extract_eq s a b

abbrev Tx := List UInt8
/-- A write: its sector and its bytes. -/
abbrev Wr := Int × Tx
/-- The writes with their places, the last one first. -/
def revs (L : List Wr) : List (Int × Wr) := ((List.range L.length).map fun j : Nat => ((j : Int), L[j]?.getD (0, []))).reverse
theorem revs_length (L : List Wr) : (revs L).length = L.length := by simp [revs]
theorem revs_take (L : List Wr) (m : Nat) (h : m < L.length) : (revs L).take (L.length - m) = (revs L).take (L.length - (m + 1)) ++ [((m : Int), L[m])] := by
  have e : L.length - m = (L.length - (m + 1)) + 1 := by omega
  rw [e, List.take_succ_eq_append_getElem (by rw [revs_length]; omega)]
  congr 2
  unfold revs
  rw [List.getElem_reverse]
  have e2 : L.length - 1 - (L.length - (m + 1)) = m := by omega
  simp [e2, h]
/-- The last of the writes of sector i, or d. -/
def lastW (L : List Wr) (i : Int) (d : Wr) : Wr := (L.reverse.find? fun x => x.1 == i).getD d
theorem revs_map (L : List Wr) : (revs L).map (·.2) = L.reverse := by
  unfold revs
  rw [List.map_reverse]
  congr 1
  apply List.ext_getElem
  · simp
  · intro i h1 h2; simp at h1; simp [h1]
theorem lastW_none (L : List Wr) (i : Int) (d : Wr) (h : ∀ y ∈ revs L, y.2.1 ≠ i) : lastW L i d = d := by
  unfold lastW
  rw [← revs_map]
  have : (List.map (fun x => x.2) (revs L)).find? (fun x => x.1 == i) = none := by
    rw [List.find?_eq_none]
    intro x hx
    obtain ⟨y, hy, rfl⟩ := List.mem_map.1 hx
    simpa using h y hy
  rw [this]; rfl
theorem lastW_some (L : List Wr) (i : Int) (d : Wr) (pre : List (Int × Wr)) (x : Int × Wr) (hp : pre ++ [x] <+: revs L) (h : ∀ y ∈ pre, y.2.1 ≠ i) (hx : x.2.1 = i) : lastW L i d = x.2 := by
  unfold lastW
  rw [← revs_map]
  obtain ⟨t, ht⟩ := hp
  rw [← ht]
  simp only [List.map_append, List.append_assoc, List.find?_append]
  have h1 : (List.map (fun x => x.2) pre).find? (fun x => x.1 == i) = none := by
    rw [List.find?_eq_none]
    intro y hy
    obtain ⟨z, hz, rfl⟩ := List.mem_map.1 hy
    simpa using h z hz
  rw [h1]
  simp [hx]
theorem lastW_snoc (L : List Wr) (x : Wr) (i : Int) (d : Wr) : lastW (L ++ [x]) i d = if x.1 = i then x else lastW L i d := by
  unfold lastW
  by_cases h : x.1 = i
  · simp [h]
  · simp [h]
end Go.Proofs.Ytoelaemneoabfaa.M
