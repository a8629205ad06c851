/-
  The contracts of tellFrom, All and From, walked.
-/
import Derived.Test.YtoelaemneoabfabT
namespace Go.Proofs.Ytoelaemneoabfab
open Go.RowKit

/-- A key and its value as arguments. -/
def kvS (x : List UInt8 × Int) : Array Value := #[(Value.string (M.bs x.1)), .int .i64 x.2]
/-- With a box beside it. -/
def BesideS (J : (Nat → Prop) → M.Ents (List UInt8) → World → Prop) (B : Nat) (v : Value) : (Nat → Prop) → M.Ents (List UInt8) → World → Prop := fun X pre W => J (fun k => X k ∨ k = B) pre W ∧ Bx W B 66 v
theorem besideS {J : (Nat → Prop) → M.Ents (List UInt8) → World → Prop} (hA : Abides J) (B : Nat) (v : Value) : Abides (BesideS J B v) := by
  refine ⟨fun X pre W h k hk => hA.lt _ _ _ h.1 k (.inl hk), fun X pre W W' h b => ⟨hA.weak _ _ _ _ (hA.more _ _ _ _ h.1 b) ?_, h.2.bel b⟩, fun X Y pre W h hs => ⟨hA.weak _ _ _ _ h.1 ?_, h.2⟩⟩
  · rintro k ((h | h) | h)
    · exact .inl (.inl h)
    · exact .inr h
    · exact .inl (.inr h)
  · rintro k (h | h)
    · exact .inl (hs k h)
    · exact .inr h
set_option maxHeartbeats 1000000 in
theorem tfcS (g : Nat) (lb : Array Value) (L : M.Ents (List UInt8)) (J Jx : (Nat → Prop) → M.Ents (List UInt8) → World → Prop) (hA : Abides J) (hY : Yields g lb kvS L J Jx) (B : Nat) :
    Yields 53 #[.pointer (some ⟨B, 0, none⟩)] entS L (BesideS J B (.func (.func g) #[] lb)) (BesideS Jx B (.func (.func g) #[] lb)) := by
  refine ⟨enters_of Try.func53 (by kernel_rfl) rfl, fun X pre x W hp hJ => ?_⟩
  obtain ⟨ek, ev⟩ := x
  have eg := hY.1
  have hb := hJ.2.cell
  have hbl := hJ.2.lt
  have HC := hid (hY.2 (fun k => X k ∨ k = B) pre (ek, ev) (W.alloc (.cells #[(Value.string (M.bs ek)), .int .i64 ev] 70)) hp (hA.weak _ _ _ _ (hA.more _ _ _ _ hJ.1 (Bel.al (Below.refl _ _) _)) (fun j h => .inl h)))
  have HJ := hid hJ
  have HX := hid (hA.lt _ _ _ hJ.1)
  clear hY hJ hA
  unfold entS
  go_enter Try.func53, Try.ntmps53
  go_wp2_with fail
  have hc := HC.out
  unfold kvS at hc
  refine hc.mono ?_
  clear hc
  rintro e w2 ⟨k2, h⟩
  have HB := hid (((HJ.out.2.al _).keep k2 (.inr rfl)))
  have HK : Hid (Keep X W w2) := (((Keep.refl _ W).al HX.out _).tr k2).weak (fun k h => .inl h)
  rcases h with ⟨rfl, h⟩ | ⟨rfl, h⟩
  · have H2 := hid h
    clear h k2
    go_wp2_with fail
    go_ret
    exact ⟨HK.out, .inl ⟨rfl, H2.out, HB.out⟩⟩
  · have H2 := hid h
    clear h k2
    go_wp2_with fail
    go_ret
    exact ⟨HK.out, .inr ⟨rfl, H2.out, HB.out⟩⟩
set_option maxHeartbeats 2000000 in
theorem tellFromS (Z : Nat → Prop) (L : M.Ents (List UInt8)) (b i : Nat) (w : World) (hL : L.length ≤ 1000) (hi : i ≤ L.length) (hm : MapS Z w b L) (g : Nat) (lb : Array Value) (J Jx : (Nat → Prop) → M.Ents (List UInt8) → World → Prop) (hA : Abides J) (hAx : Abides Jx)
    (hY : Yields g lb kvS (L.drop i) J Jx) (X : Nat → Prop) (h0 : J X [] w) :
    Calls Try.prog 37 #[.pointer (some ⟨b, 0, none⟩), .int .i64 i, .func (.func g) #[] lb] w fun e w' => e = .returned (.tuple #[]) ∧ Keep X w w' ∧ Told (L.drop i) J Jx X w' := by
  obtain ⟨v, hb, _, ho, _⟩ := hm
  have c := (hb.al (.cells #[.func (.func g) #[] lb] 66)).cell
  have hbl := hb.lt
  have hX := hA.lt _ _ _ h0
  have hB0 : BesideS J w.heap.size (.func (.func g) #[] lb) X [] (w.alloc (.cells #[.func (.func g) #[] lb] 66)) := by
    refine ⟨hA.weak _ _ _ _ (hA.more _ _ _ _ h0 (Bel.al (Below.refl _ _) _)) ?_, Bx.new _ _ _⟩
    rintro k (h | h)
    · exact .inl h
    · exact .inr (by subst h; simp)
  have HT : Hid (∀ v', ShowsS (w.alloc (.cells #[.func (.func g) #[] lb] 66)) v' (L.drop i) → Calls Try.prog 52 #[v', .func (.func 53) #[] #[.pointer (some ⟨w.heap.size, 0, none⟩)]] (w.alloc (.cells #[.func (.func g) #[] lb] 66)) fun e w' => e = .returned (.tuple #[]) ∧ Keep X w w' ∧ Told (L.drop i) J Jx X w') := by
    intro v' hs
    refine (tellS (L.drop i) v' _ (by rw [List.length_drop]; omega) hs 53 _ _ _ (besideS hA _ _) (besideS hAx _ _) (tfcS g lb _ J Jx hA hY w.heap.size) X hB0).mono ?_
    rintro e w' ⟨rfl, k, h⟩
    refine ⟨rfl, ((Keep.refl _ w).al hX _).tr k, ?_⟩
    rcases h with h | ⟨pre, hp, h⟩
    · exact .inl (hA.weak _ _ _ _ h.1 (fun k h => .inl h))
    · exact .inr ⟨pre, hp, hAx.weak _ _ _ _ h.1 (fun k h => .inl h)⟩
  have fin : Hid (∀ v', ShowsS w v' (L.drop i) → ShowsS (w.alloc (.cells #[.func (.func g) #[] lb] 66)) v' (L.drop i)) := by
    rintro v' ⟨a, cap, rfl, h | ⟨g', off, rfl, hr⟩⟩
    · exact ⟨a, cap, rfl, .inl h⟩
    · exact ⟨_, cap, rfl, .inr ⟨g', off, rfl, hr.bel (Bel.al (Below.refl _ _) _)⟩⟩
  have hro := rowS_of ho
  have hcap : Hid (∀ a n cap, v = .slice a n cap → cap ≤ maxLen ∧ n ≤ cap) := by
    rcases ho.1.2 with ⟨rfl, _⟩ | ⟨g', cap', cur, rfl, _, _, h1, h2, _⟩
    · rintro a n cap h; cases h; exact ⟨Nat.zero_le _, Nat.zero_le _⟩
    · rintro a n cap h; cases h; exact ⟨h2, h1⟩
  clear hB0 hY hA hAx h0 ho hX hb
  rcases hro with ⟨rfl, rfl⟩ | ⟨g', cap, rfl, hr⟩
  · have hi0 : i = 0 := by simpa using hi
    subst hi0
    have HS := fin.out (.slice none 0 0) ⟨none, 0, rfl, .inl rfl⟩
    go_enter Try.func37, Try.ntmps37
    go_wp2_with fail
    refine (HT.out _ HS).mono ?_
    rintro e w' ⟨rfl, h⟩
    have H := hid h
    clear h
    go_wp2_with fail
    go_end0
    exact ⟨rfl, H.out⟩
  · obtain ⟨hcm, hcn⟩ := hcap.out _ _ _ rfl
    unfold maxLen at hcm
    by_cases he : cap = i
    · have hln : i = L.length := by omega
      have hd : L.drop i = [] := by rw [hln]; exact List.drop_length
      have HS := fin.out (.slice (some ⟨g', 0, none⟩) 0 0) ⟨_, _, by rw [hd]; rfl, .inl hd⟩
      clear hd
      have he2 : (L.length : Int) = (i : Int) := by omega
      clear hr
      go_enter Try.func37, Try.ntmps37
      go_wp2_with fail
      refine (HT.out _ HS).mono ?_
      rintro e w' ⟨rfl, h⟩
      have H := hid h
      clear h
      go_wp2_with fail
      go_end0
      exact ⟨rfl, H.out⟩
    · have HS := fin.out (.slice (some ⟨g', i * 2, none⟩) (L.length - i) (cap - i)) ⟨_, _, by rw [List.length_drop], .inr ⟨g', i * 2, rfl, fun j hj => by
        rw [List.length_drop] at hj
        have := hr (i + j) (by omega)
        rw [List.getElem_drop]
        rw [show i * 2 + j * 2 = 0 + (i + j) * 2 by omega]
        exact this⟩⟩
      clear hr
      go_enter Try.func37, Try.ntmps37
      go_wp2_with fail
      refine (HT.out _ HS).mono ?_
      rintro e w' ⟨rfl, h⟩
      have H := hid h
      clear h
      go_wp2_with fail
      go_end0
      exact ⟨rfl, H.out⟩
theorem allS (p : Option Addr) (w : World) : Calls Try.prog 16 #[.pointer p] w fun e w' => e = .returned (.func (.func 36) #[] #[.pointer (some ⟨w.heap.size, 0, none⟩)]) ∧ w.alloc (.cells #[.pointer p] 42) = w' := by
  go_enter Try.func16, Try.ntmps16
  go_wp2_with fail
  go_ret
  exact ⟨rfl, rfl⟩
theorem allcS (Z : Nat → Prop) (L : M.Ents (List UInt8)) (b B : Nat) (w : World) (hL : L.length ≤ 1000) (hm : MapS Z w b L) (hB : Bx w B 42 (.pointer (some ⟨b, 0, none⟩))) (g : Nat) (lb : Array Value) (J Jx : (Nat → Prop) → M.Ents (List UInt8) → World → Prop) (hA : Abides J) (hAx : Abides Jx)
    (hY : Yields g lb kvS L J Jx) (X : Nat → Prop) (h0 : J X [] w) :
    Calls Try.prog 36 #[.func (.func g) #[] lb, .pointer (some ⟨B, 0, none⟩)] w fun e w' => e = .returned (.tuple #[]) ∧ Keep X w w' ∧ Told L J Jx X w' := by
  have H := hid (tellFromS Z L b 0 w hL (Nat.zero_le _) hm g lb J Jx hA hAx hY X h0)
  have c := hB.cell
  clear hY h0 hA hAx hm
  go_enter Try.func36, Try.ntmps36
  go_wp2_with fail
  refine H.out.mono ?_
  rintro e w' ⟨rfl, h⟩
  have H := hid h
  clear h
  go_wp2_with fail
  go_end0
  exact ⟨rfl, H.out⟩
/-- A key and its value as arguments. -/
def kvI (x : Int × Int) : Array Value := #[(Value.int .i64 x.1), .int .i64 x.2]
/-- With a box beside it. -/
def BesideI (J : (Nat → Prop) → M.Ents (Int) → World → Prop) (B : Nat) (v : Value) : (Nat → Prop) → M.Ents (Int) → World → Prop := fun X pre W => J (fun k => X k ∨ k = B) pre W ∧ Bx W B 63 v
theorem besideI {J : (Nat → Prop) → M.Ents (Int) → World → Prop} (hA : Abides J) (B : Nat) (v : Value) : Abides (BesideI J B v) := by
  refine ⟨fun X pre W h k hk => hA.lt _ _ _ h.1 k (.inl hk), fun X pre W W' h b => ⟨hA.weak _ _ _ _ (hA.more _ _ _ _ h.1 b) ?_, h.2.bel b⟩, fun X Y pre W h hs => ⟨hA.weak _ _ _ _ h.1 ?_, h.2⟩⟩
  · rintro k ((h | h) | h)
    · exact .inl (.inl h)
    · exact .inr h
    · exact .inl (.inr h)
  · rintro k (h | h)
    · exact .inl (hs k h)
    · exact .inr h
set_option maxHeartbeats 1000000 in
theorem tfcI (g : Nat) (lb : Array Value) (L : M.Ents (Int)) (J Jx : (Nat → Prop) → M.Ents (Int) → World → Prop) (hA : Abides J) (hY : Yields g lb kvI L J Jx) (B : Nat) :
    Yields 61 #[.pointer (some ⟨B, 0, none⟩)] entI L (BesideI J B (.func (.func g) #[] lb)) (BesideI Jx B (.func (.func g) #[] lb)) := by
  refine ⟨enters_of Try.func61 (by kernel_rfl) rfl, fun X pre x W hp hJ => ?_⟩
  obtain ⟨ek, ev⟩ := x
  have eg := hY.1
  have hb := hJ.2.cell
  have hbl := hJ.2.lt
  have HC := hid (hY.2 (fun k => X k ∨ k = B) pre (ek, ev) (W.alloc (.cells #[(Value.int .i64 ek), .int .i64 ev] 80)) hp (hA.weak _ _ _ _ (hA.more _ _ _ _ hJ.1 (Bel.al (Below.refl _ _) _)) (fun j h => .inl h)))
  have HJ := hid hJ
  have HX := hid (hA.lt _ _ _ hJ.1)
  clear hY hJ hA
  unfold entI
  go_enter Try.func61, Try.ntmps61
  go_wp2_with fail
  have hc := HC.out
  unfold kvI at hc
  refine hc.mono ?_
  clear hc
  rintro e w2 ⟨k2, h⟩
  have HB := hid (((HJ.out.2.al _).keep k2 (.inr rfl)))
  have HK : Hid (Keep X W w2) := (((Keep.refl _ W).al HX.out _).tr k2).weak (fun k h => .inl h)
  rcases h with ⟨rfl, h⟩ | ⟨rfl, h⟩
  · have H2 := hid h
    clear h k2
    go_wp2_with fail
    go_ret
    exact ⟨HK.out, .inl ⟨rfl, H2.out, HB.out⟩⟩
  · have H2 := hid h
    clear h k2
    go_wp2_with fail
    go_ret
    exact ⟨HK.out, .inr ⟨rfl, H2.out, HB.out⟩⟩
set_option maxHeartbeats 2000000 in
theorem tellFromI (Z : Nat → Prop) (L : M.Ents (Int)) (b i : Nat) (w : World) (hL : L.length ≤ 1000) (hi : i ≤ L.length) (hm : MapI Z w b L) (g : Nat) (lb : Array Value) (J Jx : (Nat → Prop) → M.Ents (Int) → World → Prop) (hA : Abides J) (hAx : Abides Jx)
    (hY : Yields g lb kvI (L.drop i) J Jx) (X : Nat → Prop) (h0 : J X [] w) :
    Calls Try.prog 46 #[.pointer (some ⟨b, 0, none⟩), .int .i64 i, .func (.func g) #[] lb] w fun e w' => e = .returned (.tuple #[]) ∧ Keep X w w' ∧ Told (L.drop i) J Jx X w' := by
  obtain ⟨v, hb, _, ho, _⟩ := hm
  have c := (hb.al (.cells #[.func (.func g) #[] lb] 63)).cell
  have hbl := hb.lt
  have hX := hA.lt _ _ _ h0
  have hB0 : BesideI J w.heap.size (.func (.func g) #[] lb) X [] (w.alloc (.cells #[.func (.func g) #[] lb] 63)) := by
    refine ⟨hA.weak _ _ _ _ (hA.more _ _ _ _ h0 (Bel.al (Below.refl _ _) _)) ?_, Bx.new _ _ _⟩
    rintro k (h | h)
    · exact .inl h
    · exact .inr (by subst h; simp)
  have HT : Hid (∀ v', ShowsI (w.alloc (.cells #[.func (.func g) #[] lb] 63)) v' (L.drop i) → Calls Try.prog 60 #[v', .func (.func 61) #[] #[.pointer (some ⟨w.heap.size, 0, none⟩)]] (w.alloc (.cells #[.func (.func g) #[] lb] 63)) fun e w' => e = .returned (.tuple #[]) ∧ Keep X w w' ∧ Told (L.drop i) J Jx X w') := by
    intro v' hs
    refine (tellI (L.drop i) v' _ (by rw [List.length_drop]; omega) hs 61 _ _ _ (besideI hA _ _) (besideI hAx _ _) (tfcI g lb _ J Jx hA hY w.heap.size) X hB0).mono ?_
    rintro e w' ⟨rfl, k, h⟩
    refine ⟨rfl, ((Keep.refl _ w).al hX _).tr k, ?_⟩
    rcases h with h | ⟨pre, hp, h⟩
    · exact .inl (hA.weak _ _ _ _ h.1 (fun k h => .inl h))
    · exact .inr ⟨pre, hp, hAx.weak _ _ _ _ h.1 (fun k h => .inl h)⟩
  have fin : Hid (∀ v', ShowsI w v' (L.drop i) → ShowsI (w.alloc (.cells #[.func (.func g) #[] lb] 63)) v' (L.drop i)) := by
    rintro v' ⟨a, cap, rfl, h | ⟨g', off, rfl, hr⟩⟩
    · exact ⟨a, cap, rfl, .inl h⟩
    · exact ⟨_, cap, rfl, .inr ⟨g', off, rfl, hr.bel (Bel.al (Below.refl _ _) _)⟩⟩
  have hro := rowI_of ho
  have hcap : Hid (∀ a n cap, v = .slice a n cap → cap ≤ maxLen ∧ n ≤ cap) := by
    rcases ho.1.2 with ⟨rfl, _⟩ | ⟨g', cap', cur, rfl, _, _, h1, h2, _⟩
    · rintro a n cap h; cases h; exact ⟨Nat.zero_le _, Nat.zero_le _⟩
    · rintro a n cap h; cases h; exact ⟨h2, h1⟩
  clear hB0 hY hA hAx h0 ho hX hb
  rcases hro with ⟨rfl, rfl⟩ | ⟨g', cap, rfl, hr⟩
  · have hi0 : i = 0 := by simpa using hi
    subst hi0
    have HS := fin.out (.slice none 0 0) ⟨none, 0, rfl, .inl rfl⟩
    go_enter Try.func46, Try.ntmps46
    go_wp2_with fail
    refine (HT.out _ HS).mono ?_
    rintro e w' ⟨rfl, h⟩
    have H := hid h
    clear h
    go_wp2_with fail
    go_end0
    exact ⟨rfl, H.out⟩
  · obtain ⟨hcm, hcn⟩ := hcap.out _ _ _ rfl
    unfold maxLen at hcm
    by_cases he : cap = i
    · have hln : i = L.length := by omega
      have hd : L.drop i = [] := by rw [hln]; exact List.drop_length
      have HS := fin.out (.slice (some ⟨g', 0, none⟩) 0 0) ⟨_, _, by rw [hd]; rfl, .inl hd⟩
      clear hd
      have he2 : (L.length : Int) = (i : Int) := by omega
      clear hr
      go_enter Try.func46, Try.ntmps46
      go_wp2_with fail
      refine (HT.out _ HS).mono ?_
      rintro e w' ⟨rfl, h⟩
      have H := hid h
      clear h
      go_wp2_with fail
      go_end0
      exact ⟨rfl, H.out⟩
    · have HS := fin.out (.slice (some ⟨g', i * 2, none⟩) (L.length - i) (cap - i)) ⟨_, _, by rw [List.length_drop], .inr ⟨g', i * 2, rfl, fun j hj => by
        rw [List.length_drop] at hj
        have := hr (i + j) (by omega)
        rw [List.getElem_drop]
        rw [show i * 2 + j * 2 = 0 + (i + j) * 2 by omega]
        exact this⟩⟩
      clear hr
      go_enter Try.func46, Try.ntmps46
      go_wp2_with fail
      refine (HT.out _ HS).mono ?_
      rintro e w' ⟨rfl, h⟩
      have H := hid h
      clear h
      go_wp2_with fail
      go_end0
      exact ⟨rfl, H.out⟩
theorem allI (p : Option Addr) (w : World) : Calls Try.prog 25 #[.pointer p] w fun e w' => e = .returned (.func (.func 45) #[] #[.pointer (some ⟨w.heap.size, 0, none⟩)]) ∧ w.alloc (.cells #[.pointer p] 78) = w' := by
  go_enter Try.func25, Try.ntmps25
  go_wp2_with fail
  go_ret
  exact ⟨rfl, rfl⟩
theorem allcI (Z : Nat → Prop) (L : M.Ents (Int)) (b B : Nat) (w : World) (hL : L.length ≤ 1000) (hm : MapI Z w b L) (hB : Bx w B 78 (.pointer (some ⟨b, 0, none⟩))) (g : Nat) (lb : Array Value) (J Jx : (Nat → Prop) → M.Ents (Int) → World → Prop) (hA : Abides J) (hAx : Abides Jx)
    (hY : Yields g lb kvI L J Jx) (X : Nat → Prop) (h0 : J X [] w) :
    Calls Try.prog 45 #[.func (.func g) #[] lb, .pointer (some ⟨B, 0, none⟩)] w fun e w' => e = .returned (.tuple #[]) ∧ Keep X w w' ∧ Told L J Jx X w' := by
  have H := hid (tellFromI Z L b 0 w hL (Nat.zero_le _) hm g lb J Jx hA hAx hY X h0)
  have c := hB.cell
  clear hY h0 hA hAx hm
  go_enter Try.func45, Try.ntmps45
  go_wp2_with fail
  refine H.out.mono ?_
  rintro e w' ⟨rfl, h⟩
  have H := hid h
  clear h
  go_wp2_with fail
  go_end0
  exact ⟨rfl, H.out⟩
end Go.Proofs.Ytoelaemneoabfab
