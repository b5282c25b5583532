/-
  What the functions of package name that read a name, and the document's, answer.
-/
import Derived.Test.YtgidaljhfngiaaaNameRef
import Derived.Laws.StructEq
namespace Go.Proofs.Ytgidaljhfngiaaa
open Go.RowKit Go.Lib

namespace Nm
theorem take_snoc (s : ByteArray) (k : Nat) (h : k < s.size) : s.data.toList.take (k + 1) = s.data.toList.take k ++ [s[k]] := by
  rw [List.take_succ_eq_append_getElem (by simpa using h)]; rfl
theorem tail_at (s : ByteArray) (k : Nat) (h : k + 1 < s.size) : s.data.toList.tail[k]? = some s[k + 1] := by
  rw [List.getElem?_tail, Array.getElem?_toList, Array.getElem?_eq_getElem (by exact h)]; rfl
theorem take_tail (s : ByteArray) (k : Nat) (h : k + 1 < s.size) : s.data.toList.tail.take (k + 1) = s.data.toList.tail.take k ++ [s[k + 1]] := by
  have hl : k < s.data.toList.tail.length := by simp; omega
  rw [List.take_succ_eq_append_getElem hl]
  congr 2
  have := tail_at s k h
  rw [List.getElem?_eq_getElem hl] at this
  exact Option.some.inj this
theorem all_take {l : List UInt8} {k : Nat} {c : UInt8} (h : l.take (k + 1) = l.take k ++ [c]) (hk : (l.take k).all Np.isDig = true) : (l.take (k + 1)).all Np.isDig = Np.isDig c := by
  rw [h, List.all_append, hk]; simp
theorem all_no {l : List UInt8} {k : Nat} (h : (l.take k).all Np.isDig = false) : l.all Np.isDig = false := by
  rw [← List.take_append_drop k l, List.all_append, h]; rfl
def offVal (l : List UInt8) : Value := .tuple #[.int .i64 (Np.offN l : Int), .bool (Np.offB l)]
theorem offVal_no {l : List UInt8} (h : Np.offB l = false) : offVal l = .tuple #[.int .i64 0, .bool false] := by unfold offVal Np.offN; rw [h]; rfl
theorem offVal_yes {l : List UInt8} (h : Np.offB l = true) : offVal l = .tuple #[.int .i64 (Np.val l : Int), .bool true] := by unfold offVal Np.offN; rw [h]; rfl
theorem offB_no {l : List UInt8} (h : l.all Np.isDig = false) : Np.offB l = false := by unfold Np.offB; rw [h]; rfl
end Nm
open Nm

set_option maxRecDepth 100000 in
set_option maxHeartbeats 400000 in
theorem isManifest_any (c : UInt8) (w : World) : Calls Try.prog 13 #[.int .u8 (c.toNat : Int)] w fun e w' => e = .returned (.bool (c == 109 || c == 110)) ∧ w = w' := by
  by_cases h : c = 109
  · subst h
    go_enter Try.func13, Try.ntmps13
    go_wp2
    go_ret
    exact ⟨rfl, rfl⟩
  · have e1 : (c == 109) = false := by simpa using h
    have n1 : ((c.toNat : Int) == 109) = false := by
      rw [beq_eq_false_iff_ne]; intro e; exact h (UInt8.toNat_inj.1 (by show c.toNat = 109; omega))
    rw [e1, Bool.false_or]
    by_cases h2 : c = 110
    · subst h2
      go_enter Try.func13, Try.ntmps13
      go_wp2
      go_ret
      exact ⟨rfl, rfl⟩
    · have e2 : (c == 110) = false := by simpa using h2
      have n2 : ((c.toNat : Int) == 110) = false := by
        rw [beq_eq_false_iff_ne]; intro e; exact h2 (UInt8.toNat_inj.1 (by show c.toNat = 110; omega))
      rw [e2]
      clear h h2 e1 e2
      go_enter Try.func13, Try.ntmps13
      go_wp2
      go_ret
      exact ⟨by simp, rfl⟩

set_option maxRecDepth 100000 in
set_option maxHeartbeats 400000 in
theorem hasOffset_any (c : UInt8) (w : World) : Calls Try.prog 14 #[.int .u8 (c.toNat : Int)] w fun e w' => e = .returned (.bool (c == 115 || c == 116)) ∧ w = w' := by
  by_cases h : c = 115
  · subst h
    go_enter Try.func14, Try.ntmps14
    go_wp2
    go_ret
    exact ⟨rfl, rfl⟩
  · have e1 : (c == 115) = false := by simpa using h
    have n1 : ((c.toNat : Int) == 115) = false := by
      rw [beq_eq_false_iff_ne]; intro e; exact h (UInt8.toNat_inj.1 (by show c.toNat = 115; omega))
    rw [e1, Bool.false_or]
    by_cases h2 : c = 116
    · subst h2
      go_enter Try.func14, Try.ntmps14
      go_wp2
      go_ret
      exact ⟨rfl, rfl⟩
    · have e2 : (c == 116) = false := by simpa using h2
      have n2 : ((c.toNat : Int) == 116) = false := by
        rw [beq_eq_false_iff_ne]; intro e; exact h2 (UInt8.toNat_inj.1 (by show c.toNat = 116; omega))
      rw [e2]
      clear h h2 e1 e2
      go_enter Try.func14, Try.ntmps14
      go_wp2
      go_ret
      exact ⟨by simp, rfl⟩

set_option maxRecDepth 100000 in
set_option maxHeartbeats 800000 in
theorem offset_any (s : ByteArray) (w : World) (h : s.size = 13) :
    Calls Try.prog 15 #[.string s] w fun e w' => e = .returned (offVal s.data.toList) ∧ w = w' := by
  have M := fun n : Int => fun W : World => mayBe_any n W
  have M := Lib.hid M
  have HS := Lib.hid h
  have hs : s.size ≤ 13 := by omega
  have hs2 : 13 ≤ s.size := by omega
  clear h
  go_enter Try.func15, Try.ntmps15
  go_wp2_with fail
  go_loop [4, 8] (fun a i => ∃ k n : Nat, k ≤ s.size ∧ n ≤ 9999999999999 ∧ i = .int .i64 k ∧ a = .int .i64 n ∧ n = Np.val (s.data.toList.take k) ∧ (s.data.toList.take k).all Np.isDig = true) (fun _ i => s.size - (intOf i).toNat)
  case atStart => exact ⟨0, 0, by omega, by omega, rfl, rfl, rfl, rfl⟩
  case round =>
    obtain ⟨k, n, hk, hn, rfl, rfl, hne, hall⟩ := hrel
    by_cases hlt : k < s.size
    · have h12 := Np.val_take_lt s.data.toList k (by omega) hall
      have hts := take_snoc s k hlt
      have hvs := Np.val_snoc (s.data.toList.take k) s[k]
      rw [← hts, ← hne] at hvs
      rw [← hne] at h12
      have hals := all_take hts hall
      have h255 := s[k].toNat_lt
      have h256 : ((s[k].toNat : Nat) : Int) < 256 := by omega
      by_cases hd : Np.isDig s[k] = true
      · rw [hd] at hals
        rw [Np.isDig_iff] at hd
        obtain ⟨d1, d2⟩ := hd
        have d3 : (48 : Int) ≤ (s[k].toNat : Int) := by omega
        have d4 : (s[k].toNat : Int) ≤ 57 := by omega
        have HV := Lib.hid hvs
        have HA := Lib.hid hals
        clear hn
        clear hvs hals hall hne hts
        go_wp2
        go_round
        case rel => exact ⟨k + 1, n * 10 + (s[k].toNat - 48), by omega, by omega, by go_num, congrArg (Value.int .i64) (by omega), HV.out.symm, HA.out⟩
        case measure => simp [intOf]; omega
      · have hd0 : Np.isDig s[k] = false := by simpa using hd
        rw [hd0] at hals
        have hno := offVal_no (offB_no (all_no hals))
        have HO := Lib.hid hno
        rw [Np.isDig_iff] at hd
        clear hvs hals hall hne hts hno hd0
        by_cases d1 : (s[k].toNat : Int) < 48
        · clear hd
          go_wp2
          go_ret2
          exact ⟨by rw [HO.out]; rfl, rfl⟩
        · have d2 : 57 < (s[k].toNat : Int) := by omega
          clear hd
          go_wp2
          go_ret2
          exact ⟨by rw [HO.out]; rfl, rfl⟩
    · obtain rfl : k = s.size := by omega
      rw [List.take_of_length_le (by show _ ≤ _; exact Nat.le_refl s.size)] at hne hall
      clear hlt hk
      by_cases hm : n ≤ 1099511627776
      · have C := M.out (n : Int)
        rw [decide_eq_true (⟨by omega, by omega⟩ : (0 : Int) ≤ n ∧ (n : Int) ≤ 1099511627776)] at C
        have C := Lib.hid C
        have HO := Lib.hid (offVal_yes ((Np.offB_iff _).2 ⟨hall, by omega⟩))
        have HN := Lib.hid hne
        clear hall hne
        go_wp2_with fail
        refine (C.out _).mono ?_
        rintro e w1 ⟨rfl, rfl⟩
        go_wp2_with fail
        go_ret2
        exact ⟨by rw [HO.out, ← HN.out]; rfl, rfl⟩
      · have C := M.out (n : Int)
        rw [decide_eq_false (by omega : ¬ ((0 : Int) ≤ n ∧ (n : Int) ≤ 1099511627776))] at C
        have C := Lib.hid C
        have hno : Np.offB s.data.toList = false := by
          rw [← Bool.not_eq_true, Np.offB_iff]
          omega
        have HO := Lib.hid (offVal_no hno)
        have HN := Lib.hid hne
        clear hall hne hno
        go_wp2_with fail
        refine (C.out _).mono ?_
        rintro e w1 ⟨rfl, rfl⟩
        go_wp2_with fail
        go_ret2
        exact ⟨by rw [HO.out]; rfl, rfl⟩

namespace Nm
def kindVal (s : ByteArray) : Value := .tuple #[.int .u8 ((Np.kind s.data.toList).1.toNat : Int), .int .i64 ((Np.kind s.data.toList).2 : Int)]
theorem kindVal_of {s : ByteArray} {c : UInt8} {n : Nat} (h : Np.kind s.data.toList = (c, n)) : kindVal s = .tuple #[.int .u8 (c.toNat : Int), .int .i64 (n : Int)] := by unfold kindVal; rw [h]
theorem list_cons (s : ByteArray) (h : 0 < s.size) : s.data.toList = s[0] :: s.data.toList.tail := by
  have : s.data.toList ≠ [] := by intro e; have := congrArg List.length e; simp at this; simp [ByteArray.size, this] at h
  have h2 := (List.cons_head_tail this).symm
  have h3 : s.data.toList.head this = s[0] := by
    rw [List.head_eq_getElem]; rfl
  rw [h3] at h2
  exact h2
theorem kind_none {s : ByteArray} (h1 : s.size ≠ 1) (h2 : s.size ≠ 14) : kindVal s = .tuple #[.int .u8 0, .int .i64 0] := by
  have hl : s.data.toList.length = s.size := rfl
  refine kindVal_of (c := 0) (n := 0) ?_
  unfold Np.kind
  rw [if_neg, if_neg]
  · rintro ⟨h, _⟩; omega
  · rintro (h | h) <;> · have := congrArg List.length h; simp only [List.length_cons, List.length_nil] at this; omega
theorem kind_one {s : ByteArray} (h : s.size = 1) (h0 : 0 < s.size) : (Np.kind s.data.toList) = if (s[0] == 109 || s[0] == 110) = true then (s[0], 0) else (0, 0) := by
  have ht : s.data.toList = [s[0]] := by
    have := list_cons s h0
    have h2 : s.data.toList.tail = [] := by rw [← List.length_eq_zero_iff, List.length_tail]; show s.size - 1 = 0; omega
    rw [h2] at this
    exact this
  rw [ht]
  generalize s[0] = c
  unfold Np.kind
  by_cases h1 : c = 109 ∨ c = 110
  · rw [if_pos (by simpa using h1), if_pos (by simpa using h1)]; rfl
  · rw [if_neg (by simpa using h1), if_neg (by simp), if_neg (by simpa using h1)]
theorem kind_14 {s : ByteArray} (h : s.size = 14) (h0 : 0 < s.size) : (Np.kind s.data.toList) = if (s[0] == 115 || s[0] == 116) = true ∧ Np.offB s.data.toList.tail = true then (s[0], Np.val s.data.toList.tail) else (0, 0) := by
  have hc := list_cons s h0
  have hl : s.data.toList.length = 14 := h
  have hh : s.data.toList.headD 0 = s[0] := by rw [hc]; rfl
  unfold Np.kind
  rw [hl, hh, if_neg]
  · by_cases h1 : (s[0] == 115 || s[0] == 116) = true ∧ Np.offB s.data.toList.tail = true
    · rw [if_pos h1, if_pos ⟨rfl, by simpa using h1.1, h1.2⟩]
    · rw [if_neg h1, if_neg]
      rintro ⟨_, h2, h3⟩
      exact h1 ⟨by simpa using h2, h3⟩
  · rintro (h | h) <;> · have := congrArg List.length h; rw [hl] at this; simp at this
end Nm

set_option maxRecDepth 100000 in
set_option maxHeartbeats 400000 in
theorem kind_any_none (s : ByteArray) (w : World) (h1 : s.size ≠ 1) (h2 : s.size ≠ 14) :
    Calls Try.prog 7 #[.string s] w fun e w' => e = .returned (kindVal s) ∧ w = w' := by
  rw [kind_none h1 h2]
  have e1 : ((s.size : Int) == 1) = false := by rw [beq_eq_false_iff_ne]; omega
  have e2 : ((s.size : Int) == 14) = false := by rw [beq_eq_false_iff_ne]; omega
  clear h1 h2
  go_enter Try.func7, Try.ntmps7
  go_wp2_with fail
  go_ret2
  exact ⟨rfl, rfl⟩

set_option maxRecDepth 100000 in
set_option maxHeartbeats 400000 in
theorem kind_any_one (s : ByteArray) (w : World) (h1 : s.size = 1) :
    Calls Try.prog 7 #[.string s] w fun e w' => e = .returned (kindVal s) ∧ w = w' := by
  have h0 : 0 < s.size := by omega
  have hk := kind_one h1 h0
  have e1 : ((s.size : Int) == 1) = true := by rw [beq_iff_eq]; omega
  have e2 : ((s.size : Int) == 14) = false := by rw [beq_eq_false_iff_ne]; omega
  have C1 := isManifest_any s[0]
  cases hb : (s[0] == 109 || s[0] == 110) with
  | true =>
    rw [hb] at hk C1
    have HK := Lib.hid (kindVal_of hk)
    have C1 := Lib.hid C1
    clear hb hk h1
    go_enter Try.func7, Try.ntmps7
    go_wp2_with fail
    refine (C1.out _).mono ?_
    rintro e w1 ⟨rfl, rfl⟩
    go_wp2_with fail
    go_ret2
    exact ⟨by rw [HK.out]; rfl, rfl⟩
  | false =>
    rw [hb] at hk C1
    have HK := Lib.hid (kindVal_of hk)
    have C1 := Lib.hid C1
    clear hb hk h1
    go_enter Try.func7, Try.ntmps7
    go_wp2_with fail
    refine (C1.out _).mono ?_
    rintro e w1 ⟨rfl, rfl⟩
    go_wp2_with fail
    go_ret2
    exact ⟨by rw [HK.out]; rfl, rfl⟩

set_option maxRecDepth 100000 in
set_option maxHeartbeats 400000 in
theorem kind_any_14 (s : ByteArray) (w : World) (h1 : s.size = 14) :
    Calls Try.prog 7 #[.string s] w fun e w' => e = .returned (kindVal s) ∧ w = w' := by
  have h0 : 0 < s.size := by omega
  have hk := kind_14 h1 h0
  have e1 : ((s.size : Int) == 1) = false := by rw [beq_eq_false_iff_ne]; omega
  have e2 : ((s.size : Int) == 14) = true := by rw [beq_iff_eq]; omega
  have C1 := hasOffset_any s[0]
  have hx : (s.extract 1 s.size).data.toList = s.data.toList.tail := by
    rw [ext_list, List.take_of_length_le (by simp), List.drop_one]
  have C2 := fun W : World => offset_any (s.extract 1 s.size) W (by simp; omega)
  rw [hx] at C2
  have b1 : 1 ≤ s.size := by omega
  cases hb : (s[0] == 115 || s[0] == 116) with
  | false =>
    rw [hb] at hk C1
    rw [if_neg (by simp)] at hk
    have HK := Lib.hid (kindVal_of hk)
    have C1 := Lib.hid C1
    clear hb hk h1 C2
    go_enter Try.func7, Try.ntmps7
    go_wp2_with fail
    refine (C1.out _).mono ?_
    rintro e w1 ⟨rfl, rfl⟩
    go_wp2_with fail
    go_ret2
    exact ⟨by rw [HK.out]; rfl, rfl⟩
  | true =>
    rw [hb] at hk C1
    cases ho : Np.offB s.data.toList.tail with
    | false =>
      rw [if_neg (by simp [ho])] at hk
      rw [offVal_no ho] at C2
      have HK := Lib.hid (kindVal_of hk)
      have C1 := Lib.hid C1
      have C2 := Lib.hid C2
      clear hb hk h1 ho hx
      go_enter Try.func7, Try.ntmps7
      go_wp2_with fail
      refine (C1.out _).mono ?_
      rintro e w1 ⟨rfl, rfl⟩
      go_wp2_with fail
      refine (C2.out _).mono ?_
      rintro e w1 ⟨rfl, rfl⟩
      go_wp2_with fail
      go_ret2
      exact ⟨by rw [HK.out]; rfl, rfl⟩
    | true =>
      rw [if_pos ⟨rfl, ho⟩] at hk
      rw [offVal_yes ho] at C2
      have HK := Lib.hid (kindVal_of hk)
      generalize Np.val s.data.toList.tail = V at *
      have C1 := Lib.hid C1
      have C2 := Lib.hid C2
      clear hb hk h1 ho hx
      go_enter Try.func7, Try.ntmps7
      go_wp2_with fail
      refine (C1.out _).mono ?_
      rintro e w1 ⟨rfl, rfl⟩
      go_wp2_with fail
      refine (C2.out _).mono ?_
      rintro e w1 ⟨rfl, rfl⟩
      go_wp2_with fail
      go_ret2
      exact ⟨by rw [HK.out]; rfl, rfl⟩

theorem kind_any (s : ByteArray) (w : World) :
    Calls Try.prog 7 #[.string s] w fun e w' => e = .returned (kindVal s) ∧ w = w' := by
  by_cases h1 : s.size = 1
  · exact kind_any_one s w h1
  · by_cases h2 : s.size = 14
    · exact kind_any_14 s w h2
    · exact kind_any_none s w h1 h2

end Go.Proofs.Ytgidaljhfngiaaa
