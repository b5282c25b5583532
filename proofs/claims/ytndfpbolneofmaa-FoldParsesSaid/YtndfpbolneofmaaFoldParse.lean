/-
  What the two Parse functions answer; nothing that was there is changed.
-/
import Derived.Test.YtndfpbolneofmaaFoldPair
import Derived.Test.YtndfpbolneofmaaFoldRstep
import Derived.Test.YtndfpbolneofmaaVarRref
namespace Go.Proofs.Ytndfpbolneofmaa
open Go.RowKit

/-- What Parse answers of a text: its state, and whether it is one's. -/
def ParseOut (w : World) (L : List UInt8) (e : Ending) (w' : World) : Prop :=
  ∃ v, e = .returned (.tuple #[v, .bool (Fp.parse L).isSome]) ∧ IsPrs w' v ((Fp.parse L).getD []) ∧ Below w.heap.size w w'
theorem ParseOut.no {w w' : World} {L : List UInt8} (h : Fp.parse L = none) (hb : Below w.heap.size w w') : ParseOut w L (.returned (.tuple #[.slice none 0 0, .bool false])) w' := by
  unfold ParseOut
  rw [h]
  exact ⟨_, rfl, IsPrs.nil _ _ _, hb⟩
theorem ParseOut.yes {w w' : World} {L : List UInt8} {l : List Fp.Pr} {v : Value} (h : Fp.parse L = some l) (hv : IsPrs w' v l) (hb : Below w.heap.size w w') : ParseOut w L (.returned (.tuple #[v, .bool true])) w' := by
  unfold ParseOut
  rw [h]
  exact ⟨_, rfl, hv, hb⟩

theorem parse_none {L : List UInt8} (h : Vp.take L = none) : Fp.parse L = none := by unfold Fp.parse; rw [h]
theorem parse_many {L : List UInt8} {n j : Nat} (h : Vp.take L = some (n, j)) (hn : 256 < n) : Fp.parse L = none := by
  unfold Fp.parse
  rw [h]
  simp only
  rw [if_pos hn]
theorem parse_run {L : List UInt8} {n j : Nat} (h : Vp.take L = some (n, j)) (hn : n ≤ 256) : (Fp.run n L [] j = none → Fp.parse L = none) ∧
    (∀ ps i, Fp.run n L [] j = some (ps, i) → (i = L.length → Fp.stB ps = true → Fp.parse L = some ps) ∧ (i ≠ L.length → Fp.parse L = none) ∧ (Fp.stB ps = false → Fp.parse L = none)) := by
  have key : ∀ r, Fp.run n L [] j = r → Fp.parse L = match r with
    | none => none
    | some (ps, i) => if i = L.length ∧ Fp.stB ps = true then some ps else none := by
    intro r hr
    unfold Fp.parse
    rw [h]
    simp only
    rw [if_neg (by omega), hr]
    rcases r with _ | ⟨ps, i⟩ <;> rfl
  refine ⟨fun hr => key _ hr, fun ps i hr => ⟨fun h1 h2 => ?_, fun h1 => ?_, fun h1 => ?_⟩⟩
  · rw [key _ hr]; simp only; rw [if_pos ⟨h1, h2⟩]
  · rw [key _ hr]; simp only; rw [if_neg (fun h2 => h1 h2.1)]
  · rw [key _ hr]; simp only; rw [if_neg (fun h2 => by rw [h1] at h2; cases h2.2)]
theorem new_pr_at (w : World) (N : Nat) (x y : Value) (T : TypeId) (h : w.heap.size = N) : ∀ (j : Nat) (u : Value), [x, y][j]? = some u → (w.alloc (.cells #[x, y] T)).cell? ((⟨N, 0, none⟩ : Addr).add j) = some u := by
  subst h
  exact new_pr w x y T
/-- What Parse's loop keeps: so many pairs, and the place behind them. -/
structure ParseIn (w : World) (s : ByteArray) (n j i : Nat) (acc : List Fp.Pr) (k : Nat) (v : Value) (wr : World) : Prop where
  own : Own wr w.heap.size v acc
  run : Fp.run (n - i) s.data.toList acc k = Fp.run n s.data.toList [] j
  len : acc.length = i
  val : ∀ p ∈ acc, p.v.size ≤ s.size
  at_ : k ≤ s.size
  bel : Below w.heap.size w wr
theorem run_stop {L acc : List _} {n i k : Nat} {r : Option (List Fp.Pr × Nat)} (h : Fp.run (n - i) L acc k = r) (hi : i < n) (hp : Fp.pairAt (L.drop k) = none) : r = none := by
  rw [show n - i = (n - (i + 1)) + 1 by omega, Fp.run, hp] at h
  exact h.symm
theorem run_step {L acc : List _} {n i k m : Nat} {p : Fp.Pr} {r : Option (List Fp.Pr × Nat)} (h : Fp.run (n - i) L acc k = r) (hi : i < n) (hp : Fp.pairAt (L.drop k) = some (p, m)) : Fp.run (n - (i + 1)) L (acc ++ [p]) (k + m) = r := by
  rw [show n - i = (n - (i + 1)) + 1 by omega, Fp.run, hp] at h
  exact h
theorem run_done {L acc : List _} {n k : Nat} {r : Option (List Fp.Pr × Nat)} (h : Fp.run (n - n) L acc k = r) : r = some (acc, k) := by
  rw [Nat.sub_self, Fp.run] at h
  exact h.symm

set_option maxRecDepth 100000 in
set_option maxHeartbeats 1600000 in
theorem fparse_none (s : ByteArray) (w : World) (hs : s.size ≤ 4611686018427387904) (ht : Vp.take s.data.toList = none) :
    Calls Try.prog 16 #[.string s] w (ParseOut w s.data.toList) := by
  have C := fun W : World => read_bel s ((0 : Nat) : Int) W (by omega)
  rw [rdAt_none (by simpa using ht)] at C
  have C : ∀ W : World, Calls Try.prog 24 #[.string s, .int .i64 0] W fun e w' => e = .returned (.tuple #[.int .i64 0, .int .i64 0, .bool false]) ∧ Below W.heap.size W w' := C
  have C := Lib.hid C
  have HV := Lib.hid (parse_none ht)
  clear ht
  go_enter Try.func16, Try.ntmps16
  go_wp2_with fail
  refine (C.out _).mono ?_
  rintro e w1 ⟨rfl, b1⟩
  go_wp2_with fail
  go_ret2
  exact ParseOut.no HV.out b1

set_option maxRecDepth 100000 in
set_option maxHeartbeats 3200000 in
theorem fparse_some (s : ByteArray) (n j : Nat) (w : World) (hs : s.size ≤ 1000000000000) (ht : Vp.take s.data.toList = some (n, j)) :
    Calls Try.prog 16 #[.string s] w (ParseOut w s.data.toList) := by
  obtain ⟨i0, hi0, hz0, hz1, hz2⟩ := info_parts info_pr
  have hjl := (Vp.take_some ht).2.2.1
  rw [show s.data.toList.length = s.size from rfl] at hjl
  have C := fun W : World => read_bel s ((0 : Nat) : Int) W (by omega)
  rw [rdAt_some (k := 0) ht (Nat.zero_add j)] at C
  have C : ∀ W : World, Calls Try.prog 24 #[.string s, .int .i64 0] W fun e w' => e = .returned (.tuple #[.int .i64 (n : Int), .int .i64 (j : Int), .bool true]) ∧ Below W.heap.size W w' := C
  have C := Lib.hid C
  by_cases hn : 256 < n
  · have HV := Lib.hid (parse_many ht hn)
    have hni : (256 : Int) < (n : Int) := by omega
    clear ht hn
    go_enter Try.func16, Try.ntmps16
    go_wp2_with fail
    refine (C.out _).mono ?_
    rintro e w1 ⟨rfl, b1⟩
    go_wp2_with fail
    go_ret2
    exact ParseOut.no HV.out b1
  · have HV := Lib.hid (parse_run ht (by omega))
    have hni : (n : Int) ≤ 256 := by omega
    have hnn : n ≤ 256 := by omega
    clear ht hn
    have HP := Lib.hid fun (k : Nat) (hk : k ≤ s.size) (W : World) => pair_any s k W (by omega) hk
    go_enter Try.func16, Try.ntmps16
    go_wp2_with fail
    refine (C.out _).mono ?_
    rintro e w1 ⟨rfl, b1⟩
    have HI : Hid (ParseIn w s n j 0 [] j (.slice none 0 0) w1) := ⟨Own.nil _ _, rfl, rfl, by simp, hjl, b1⟩
    clear b1
    go_wp2_with fail
    go_loopw [5, 7, 24] (fun x v y wr => ∃ (i k : Nat) (acc : List Fp.Pr), i ≤ n ∧ x = .int .i64 k ∧ y = .int .i64 i ∧ ParseIn w s n j i acc k v wr) (fun _ _ y _ => n - (intOf y).toNat)
    case atStart => exact ⟨0, j, [], Nat.zero_le _, rfl, rfl, HI.out⟩
    case round =>
      obtain ⟨i, k, acc, hi, rfl, rfl, hr⟩ := hrel
      have HR := Lib.hid hr
      have hkl := hr.at_
      have hal := hr.len
      have HS := Lib.hid hr.bel.size
      clear hr
      by_cases hlt : i < n
      · have P := fun W : World => HP.out k hkl W
        rcases hp : Fp.pairAt (s.data.toList.drop k) with _ | ⟨p, m⟩
        · rw [pairVal_none k hp] at P
          have P := Lib.hid P
          have HV2 := Lib.hid (show Fp.parse s.data.toList = none from HV.out.1 (run_stop HR.out.run hlt hp))
          have HB := Lib.hid HR.out.bel
          clear hp
          go_wp2_with fail
          refine (P.out _).mono ?_
          rintro e w2 ⟨rfl, b2⟩
          have HF := Lib.hid (fun W (hW : Below w2.heap.size w2 W) => ParseOut.no HV2.out (HB.out.trans ((bel_trans2 b2 hW).mono HS.out)))
          clear b2
          go_wp2_with fail
          go_ret2
          exact HF.out _ ((Below.refl _ _).alloc (Nat.le_refl _) _)
        · rw [pairVal_some k hp] at P
          have P := Lib.hid P
          have hml := Fp.pairAt_len hp
          rw [List.length_drop, show s.data.toList.length = s.size from rfl] at hml
          have HT := Lib.hid (run_step HR.out.run hlt hp)
          clear hp
          go_wp2_with fail
          refine (P.out _).mono ?_
          rintro e w2 ⟨rfl, b2⟩
          have HB := Lib.hid (HR.out.bel.trans (b2.mono HS.out))
          have HO := Lib.hid (HR.out.own.below b2)
          have hS2 := Lib.hid HB.out.size
          clear b2
          go_wp2_with (at_builtin; refine wpList_append_own _ rfl _ _ 22 rfl w.heap.size 40 i0 (.agg #[.int .u8 0, .string ByteArray.empty]) 2 24 Try.underlying22 hi0 hz0 hz1 hz2 rfl (by decide) _ _ _ rfl (World.ownsRow.alloc (World.ownsRow.alloc HO.out _) _) ⟨w2.heap.size + 1, 0, none⟩ 1 1 [.int .u8 (p.k.toNat : Int), .string p.v] rfl rfl (new_pr_at _ _ _ _ _ (by simp)) (by simp [Value.oneCell']) (by unfold maxLen; omega) (by omega) (by simp; have := hS2.out; omega) ?_; intro v' w3 hown' hgrow3 hnil3)
          have HN : Hid (ParseIn w s n j (i + 1) (acc ++ [p]) (k + m) v' w3) := ⟨own_snoc_pr hown', HT.out, by rw [List.length_append, HR.out.len]; rfl, fun q hq => (by
            rcases List.mem_append.1 hq with h | h
            · exact HR.out.val q h
            · rw [List.mem_singleton] at h
              rw [h]
              omega), by omega, ((HB.out.alloc hS2.out _).alloc (by simp; have := hS2.out; omega) _).grown hgrow3 (by simp; have := hS2.out; omega) (fun q hq => (World.ownsRow.lt HO.out q hq).1)⟩
          clear hown' hgrow3
          go_roundw
          case rel => exact ⟨i + 1, k + m, acc ++ [p], by omega, by go_num, by go_num, HN.out⟩
          case measure => simp [intOf]; omega
      · obtain rfl : i = n := by omega
        have hrun := HV.out.2 acc k (run_done HR.out.run)
        have HB := Lib.hid HR.out.bel
        rw [show s.data.toList.length = s.size from rfl] at hrun
        by_cases hk : k < s.size
        · have HV2 := Lib.hid (hrun.2.1 (by omega))
          clear hrun
          go_wp2_with fail
          go_ret2
          exact ParseOut.no HV2.out HB.out
        · obtain rfl : k = s.size := by omega
          have R0 : Hid (∀ v, ParseIn w s i j i acc s.size v wr → IsPrs wr v acc) := fun v h => h.own.is (by have := h.len; unfold maxLen; omega) (fun p hp => by have := h.val p hp; omega)
          have HIS := Lib.hid (R0.out _ HR.out)
          clear R0
          have R := fright_any _ acc wr HIS.out
          rcases hb : Fp.stB acc with _ | _
          · have HV2 := Lib.hid (hrun.2.2 hb)
            rw [hb] at R
            have R := Lib.hid R
            clear hrun hb
            go_wp2_with fail
            refine R.out.mono ?_
            rintro e w2 ⟨rfl, b2⟩
            have HF := Lib.hid (ParseOut.no HV2.out (HB.out.trans (b2.mono HS.out)))
            clear b2
            go_wp2_with fail
            go_ret2
            exact HF.out
          · have HV2 := Lib.hid (hrun.1 rfl hb)
            rw [hb] at R
            have R := Lib.hid R
            clear hrun hb
            go_wp2_with fail
            refine R.out.mono ?_
            rintro e w2 ⟨rfl, b2⟩
            have HF := Lib.hid (ParseOut.yes HV2.out (HIS.out.below b2 (Nat.le_refl _)) (HB.out.trans (b2.mono HS.out)))
            clear b2
            go_wp2_with fail
            go_ret2
            exact HF.out

/-- fold's Parse, of any text. -/
theorem fparse_any (s : ByteArray) (w : World) (hs : s.size ≤ 1000000000000) :
    Calls Try.prog 16 #[.string s] w (ParseOut w s.data.toList) := by
  rcases ht : Vp.take s.data.toList with _ | ⟨n, j⟩
  · exact fparse_none s w (by omega) ht
  · exact fparse_some s n j w hs ht

end Go.Proofs.Ytndfpbolneofmaa
