/-
  What the two All functions answer; nothing that was there is changed.
-/
import Derived.Test.YtnkgbmfpfdadjaaFrameRnext
namespace Go.Proofs.Ytnkgbmfpfdadjaa
open Go.RowKit

/-- A row of the call's own stays while all old blocks do. -/
theorem own_below {w w' : World} {base : Nat} {e : TypeId} {size : Nat} {v : Value} {n : Nat} {xs : List Value} (h : w.ownsRow base e size v n xs) (b : Below w.heap.size w w') : w'.ownsRow base e size v n xs := by
  refine h.kept (row := none) ⟨b.os, b.tape, b.output, b.size, fun k hk _ => b.block k hk⟩ ?_
  cases v.ownBlock with
  | none => exact .inl rfl
  | some k => exact .inr (by simp)

/-- Texts as strings. -/
def strs (bs : List (List UInt8)) : List ByteArray := bs.map fun b => ⟨b.toArray⟩
/-- Texts as cells. -/
def strVals (bs : List (List UInt8)) : List Value := bs.map fun b => .string ⟨b.toArray⟩
theorem strVals_len (bs : List (List UInt8)) : (strVals bs).length = bs.length := by simp [strVals]
theorem strs_len (bs : List (List UInt8)) : (strs bs).length = bs.length := by simp [strs]

theorem info_str : (Try.prog.info? 9).map (fun i => (i.zero, i.size, i.bytes)) = some (some (.string ByteArray.empty), 1, 16) := by kernel_rfl

theorem IsStrs.own {w : World} {base n : Nat} {v : Value} {bs : List (List UInt8)} (h : w.ownsRow base 9 1 v n (strVals bs)) (hm : n ≤ maxLen) (hb : ∀ b ∈ bs, b.length ≤ maxLen) : IsStrs w v (strs bs) := by
  have hn : n = bs.length := by have := h.1; rw [strVals_len] at this; omega
  subst hn
  have hs : ∀ s ∈ strs bs, s.size ≤ maxLen := by
    intro s hs
    unfold strs at hs
    rw [List.mem_map] at hs
    obtain ⟨b, hb1, rfl⟩ := hs
    rw [size_mk_list]
    exact hb b hb1
  rcases h.2 with ⟨rfl, h0⟩ | ⟨g, cap, cur, rfl, h1⟩
  · have : bs = [] := by simpa [strVals] using h0
    subst this
    exact IsStrs.nil w none 0
  · refine ⟨some ⟨g, 0, none⟩, cap, by rw [strs_len], by rw [strs_len]; exact hm, hs, .inr ⟨g, 0, rfl, fun i hi => ?_⟩⟩
    rw [strs_len] at hi
    have hc := h.cells (g := g) rfl i (.string ⟨bs[i].toArray⟩) (by simp [strVals, hi])
    have e : (⟨g, 0, none⟩ : Addr).add i = ⟨g, 0 + i, none⟩ := by unfold Addr.add; split <;> simp_all
    rw [e] at hc
    rw [hc]
    simp [strs, List.getD_eq_getElem?_getD, hi]

/-- What All answers: the bodies, how far they go, why there is no more. -/
def AllOut (w : World) (l : List UInt8) (e : Ending) (w' : World) : Prop :=
  ∃ v, e = .returned (.tuple #[v, .int .i64 ((Fr.all l).2.1 : Nat), .int .i64 ((Fr.all l).2.2 : Nat)]) ∧ IsStrs w' v (strs (Fr.all l).1) ∧ Below w.heap.size w w'
theorem AllOut.mk {w w' : World} {l : List UInt8} {bs : List (List UInt8)} {k er : Nat} {v : Value} (h : Fr.all l = (bs, k, er)) (hv : IsStrs w' v (strs bs)) (hb : Below w.heap.size w w') :
    AllOut w l (.returned (.tuple #[v, .int .i64 (k : Int), .int .i64 (er : Int)])) w' := by
  unfold AllOut
  rw [h]
  exact ⟨v, rfl, hv, hb⟩

theorem strVals_snoc (bs : List (List UInt8)) (b : List UInt8) : strVals (bs ++ [b]) = strVals bs ++ [.string ⟨b.toArray⟩] := by simp [strVals]
theorem own_str_snoc {w : World} {base : Nat} {v : Value} {bs : List (List UInt8)} {b : List UInt8} (h : w.ownsRow base 9 1 v (bs.length + 1) (strVals bs ++ [.string ⟨b.toArray⟩])) :
    w.ownsRow base 9 1 v (bs ++ [b]).length (strVals (bs ++ [b])) := by
  rw [strVals_snoc, List.length_append]
  exact h

theorem short_snoc {bs : List (List UInt8)} {b : List UInt8} {B : Nat} (h : ∀ x ∈ bs, x.length ≤ B) (hb : b.length ≤ B) : ∀ x ∈ bs ++ [b], x.length ≤ B := by
  intro x hx
  rcases List.mem_append.1 hx with h1 | h1
  · exact h x h1
  · rw [List.mem_singleton] at h1; subst h1; exact hb

set_option maxRecDepth 100000 in
set_option maxHeartbeats 1600000 in
theorem all_any (s : ByteArray) (w : World) (hs : s.size ≤ 140737488351232) (hs' : s.size ≤ 8796093022208) :
    Calls Try.prog 15 #[.string s] w (AllOut w s.data.toList) := by
  have hL : s.data.toList.length = s.size := rfl
  have HL := Lib.hid hL
  clear hL
  obtain ⟨i0, hi, hz0, hz1, hz2⟩ := info_parts info_str
  go_enter Try.func15, Try.ntmps15
  go_wp2_with fail
  go_loopw [5, 6] (fun v a wr => ∃ (bs : List (List UInt8)) (k : Nat), k ≤ s.size ∧ a = .int .i64 k ∧ wr.ownsRow w.heap.size 9 1 v bs.length (strVals bs) ∧ Fr.AllRel s.data.toList bs k ∧ bs.length ≤ k ∧ (∀ b ∈ bs, b.length ≤ 65536) ∧ Below w.heap.size w wr)
    (fun _ a _ => s.size - (intOf a).toNat)
  case atStart => exact ⟨[], 0, Nat.zero_le _, rfl, World.ownsRow_nil _ _ _ _, Fr.AllRel.start _, Nat.zero_le _, by simp, Below.refl _ _⟩
  case round =>
    obtain ⟨bs, k, hk, rfl, hown, hr, hlen, hsh, hb⟩ := hrel
    have HR := Lib.hid hr
    have HSH := Lib.hid hsh
    clear hr hsh
    by_cases hlt : k < s.size
    · have C := fun W : World => fnext_any s (k : Int) W hs
      rw [nxAt_in] at C
      rcases Fr.nx_cases (s.data.toList.drop k) with ⟨er, he, h3⟩ | ⟨j, b, he, h5, h6, h7, _⟩
      · rw [nxVal_no he (by omega)] at C
        have HV := Lib.hid (HR.out.stop (by rw [HL.out]; exact hlt) he (by omega))
        have C := Lib.hid C
        clear he
        rcases h3 with rfl | rfl | rfl
        all_goals
          go_wp2_with fail
          refine (C.out _).mono ?_
          rintro e w1 ⟨rfl, b1⟩
          have b01 := hb.trans (b1.mono hb.size)
          have hown1 := own_below hown b1
          have HF := Lib.hid (AllOut.mk HV.out (IsStrs.own hown1 (by unfold maxLen; omega) (fun x hx => by have := HSH.out x hx; unfold maxLen; omega)) b01)
          go_wp2_with fail
          go_ret3
          exact HF.out
      · rw [nxVal_yes he] at C
        rw [List.length_drop, HL.out] at h6
        have HV := Lib.hid (HR.out.step he)
        have HSN := Lib.hid (short_snoc HSH.out h7.2)
        have C := Lib.hid C
        clear he h7
        obtain ⟨q, hq⟩ : ∃ q, k + j = q := ⟨_, rfl⟩
        rw [hq] at C HV
        have hq2 : q ≤ s.size := by omega
        have hq3 : bs.length + 1 ≤ q := by omega
        have hq4 : k < q := by omega
        clear hq
        go_wp2_with fail
        refine (C.out _).mono ?_
        rintro e w1 ⟨rfl, b1⟩
        have b01 := hb.trans (b1.mono hb.size)
        have hown1 := own_below hown b1
        go_wp2_with (at_builtin; refine wpList_append_own _ rfl _ _ 30 rfl w.heap.size 9 i0 (.string ByteArray.empty) 1 16 Try.underlying30 hi hz0 hz1 hz2 rfl (by decide) _ _ _ rfl (hown1.alloc _) ⟨w1.heap.size, 0, none⟩ 1 1 [.string ⟨b.toArray⟩] rfl rfl (cell_one_new _ _ _) (fun x hx => by simp at hx; subst hx; rfl) (by unfold maxLen; omega) (by omega) (by simp; have := b01.size; omega) ?_; intro v' w3 hown' hgrow3 hnil3)
        go_roundw
        case rel =>
          exact ⟨bs ++ [b], q, hq2, rfl, own_str_snoc hown', HV.out, by rw [List.length_append]; exact hq3, HSN.out, (b01.alloc b01.size _).grown hgrow3 (by simp; have := b01.size; omega) (fun p hp => (hown1.lt p hp).1)⟩
        case measure =>
          simp [intOf]; omega
    · have HV := Lib.hid (HR.out.done (by rw [HL.out]; omega))
      have HF := Lib.hid (AllOut.mk HV.out (IsStrs.own hown (by unfold maxLen; omega) (fun x hx => by have := HSH.out x hx; unfold maxLen; omega)) hb)
      go_wp2_with fail
      go_ret3
      exact HF.out

set_option maxRecDepth 100000 in
set_option maxHeartbeats 1600000 in
theorem rall_any (s : ByteArray) (w : World) (hs : s.size ≤ 140737488351232) (hs' : s.size ≤ 8796093022208) :
    Calls Try.prog 16 #[.string s] w (AllOut w s.data.toList) := by
  have hL : s.data.toList.length = s.size := rfl
  have HL := Lib.hid hL
  clear hL
  obtain ⟨i0, hi, hz0, hz1, hz2⟩ := info_parts info_str
  go_enter Try.func16, Try.ntmps16
  go_wp2_with fail
  go_loopw [5, 6] (fun v a wr => ∃ (bs : List (List UInt8)) (k : Nat), k ≤ s.size ∧ a = .int .i64 k ∧ wr.ownsRow w.heap.size 9 1 v bs.length (strVals bs) ∧ Fr.AllRel s.data.toList bs k ∧ bs.length ≤ k ∧ (∀ b ∈ bs, b.length ≤ 65536) ∧ Below w.heap.size w wr)
    (fun _ a _ => s.size - (intOf a).toNat)
  case atStart => exact ⟨[], 0, Nat.zero_le _, rfl, World.ownsRow_nil _ _ _ _, Fr.AllRel.start _, Nat.zero_le _, by simp, Below.refl _ _⟩
  case round =>
    obtain ⟨bs, k, hk, rfl, hown, hr, hlen, hsh, hb⟩ := hrel
    have HR := Lib.hid hr
    have HSH := Lib.hid hsh
    clear hr hsh
    by_cases hlt : k < s.size
    · have C := fun W : World => rfnext_any s (k : Int) W hs
      rw [nxAt_in] at C
      rcases Fr.nx_cases (s.data.toList.drop k) with ⟨er, he, h3⟩ | ⟨j, b, he, h5, h6, h7, _⟩
      · rw [nxVal_no he (by omega)] at C
        have HV := Lib.hid (HR.out.stop (by rw [HL.out]; exact hlt) he (by omega))
        have C := Lib.hid C
        clear he
        rcases h3 with rfl | rfl | rfl
        all_goals
          go_wp2_with fail
          refine (C.out _).mono ?_
          rintro e w1 ⟨rfl, b1⟩
          have b01 := hb.trans (b1.mono hb.size)
          have hown1 := own_below hown b1
          have HF := Lib.hid (AllOut.mk HV.out (IsStrs.own hown1 (by unfold maxLen; omega) (fun x hx => by have := HSH.out x hx; unfold maxLen; omega)) b01)
          go_wp2_with fail
          go_ret3
          exact HF.out
      · rw [nxVal_yes he] at C
        rw [List.length_drop, HL.out] at h6
        have HV := Lib.hid (HR.out.step he)
        have HSN := Lib.hid (short_snoc HSH.out h7.2)
        have C := Lib.hid C
        clear he h7
        obtain ⟨q, hq⟩ : ∃ q, k + j = q := ⟨_, rfl⟩
        rw [hq] at C HV
        have hq2 : q ≤ s.size := by omega
        have hq3 : bs.length + 1 ≤ q := by omega
        have hq4 : k < q := by omega
        clear hq
        go_wp2_with fail
        refine (C.out _).mono ?_
        rintro e w1 ⟨rfl, b1⟩
        have b01 := hb.trans (b1.mono hb.size)
        have hown1 := own_below hown b1
        go_wp2_with (at_builtin; refine wpList_append_own _ rfl _ _ 30 rfl w.heap.size 9 i0 (.string ByteArray.empty) 1 16 Try.underlying30 hi hz0 hz1 hz2 rfl (by decide) _ _ _ rfl (hown1.alloc _) ⟨w1.heap.size, 0, none⟩ 1 1 [.string ⟨b.toArray⟩] rfl rfl (cell_one_new _ _ _) (fun x hx => by simp at hx; subst hx; rfl) (by unfold maxLen; omega) (by omega) (by simp; have := b01.size; omega) ?_; intro v' w3 hown' hgrow3 hnil3)
        go_roundw
        case rel =>
          exact ⟨bs ++ [b], q, hq2, rfl, own_str_snoc hown', HV.out, by rw [List.length_append]; exact hq3, HSN.out, (b01.alloc b01.size _).grown hgrow3 (by simp; have := b01.size; omega) (fun p hp => (hown1.lt p hp).1)⟩
        case measure =>
          simp [intOf]; omega
    · have HV := Lib.hid (HR.out.done (by rw [HL.out]; omega))
      have HF := Lib.hid (AllOut.mk HV.out (IsStrs.own hown (by unfold maxLen; omega) (fun x hx => by have := HSH.out x hx; unfold maxLen; omega)) hb)
      go_wp2_with fail
      go_ret3
      exact HF.out
end Go.Proofs.Ytnkgbmfpfdadjaa
