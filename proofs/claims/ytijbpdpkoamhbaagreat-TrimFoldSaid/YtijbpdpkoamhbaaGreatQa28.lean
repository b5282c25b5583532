/-
  Parts of what the laws of this seat stand on: RecVal, RecPut, RecRef, RecGet, RecGetC, RecOpen, RecOwn.
-/
import Derived.BigQuiet
import Derived.ChangeArms
import Derived.Deep.QuietTactic
import Derived.Deep.Slices
import Derived.Deep.Strs
import Derived.IntWalk
import Derived.Lib.Builder
import Derived.Lib.SmallJoins
import Derived.Test.YtijbpdpkoamhbaaGreatQa1
import Derived.Test.YtijbpdpkoamhbaaGreatQa12
import Derived.Test.YtijbpdpkoamhbaaGreatQa13
import Derived.Test.YtijbpdpkoamhbaaGreatQa9
set_option maxRecDepth 100000
set_option maxHeartbeats 6400000
namespace Go.Proofs.YtijbpdpkoamhbaaGreat
section
open Go.RowKit
def recVal (r : Rp.Rec) : Value := .agg #[.int .i64 r.a, .int .i64 r.t, .string r.d]
structure RecOk (r : Rp.Rec) : Prop where
 a0 : -9223372036854775808 ≤ r.a
 a1 : r.a ≤ 9223372036854775807
 t0 : -9223372036854775808 ≤ r.t
 t1 : r.t ≤ 9223372036854775807
 d1 : r.d.size ≤ 9223372036854775807
theorem within_any (n : Int) (w : World) :
 Calls Tryz.prog 188 #[.int .i64 n] w fun e w' => e = .returned (.bool (Rp.inB n)) ∧ w = w' := by
 by_cases h0 : 0 ≤ n
 · by_cases h1 : n ≤ 1099511627776
   · rw [Rp.inB_mk h0 h1]
     go_enter Tryz.func188, Tryz.ntmps188
     go_wp2_with fail
     go_ret
     exact ⟨rfl, rfl⟩
   · rw [Rp.inB_no (by omega)]
     have h2 : decide (n ≤ 1099511627776) = false := by simp; omega
     clear h1
     go_enter Tryz.func188, Tryz.ntmps188
     go_wp2_with fail
     go_ret
     exact ⟨rfl, rfl⟩
 · rw [Rp.inB_no (by omega)]
   have h2 : decide (0 ≤ n) = false := by simp; omega
   clear h0
   go_enter Tryz.func188, Tryz.ntmps188
   go_wp2_with fail
   go_ret
   exact ⟨rfl, rfl⟩
theorem rwithin_any (n : Int) (w : World) :
 Calls Tryz.prog 106 #[.int .i64 n] w fun e w' => e = .returned (.bool (Rp.inB n)) ∧ w = w' := by
 by_cases h0 : 0 ≤ n
 · by_cases h1 : n ≤ 1099511627776
   · rw [Rp.inB_mk h0 h1]
     go_enter Tryz.func106, Tryz.ntmps106
     go_wp2_with fail
     go_ret
     exact ⟨rfl, rfl⟩
   · rw [Rp.inB_no (by omega)]
     have h2 : decide (n ≤ 1099511627776) = false := by simp; omega
     clear h1
     go_enter Tryz.func106, Tryz.ntmps106
     go_wp2_with fail
     go_ret
     exact ⟨rfl, rfl⟩
 · rw [Rp.inB_no (by omega)]
   have h2 : decide (0 ≤ n) = false := by simp; omega
   clear h0
   go_enter Tryz.func106, Tryz.ntmps106
   go_wp2_with fail
   go_ret
   exact ⟨rfl, rfl⟩
theorem fault_any (r : Rp.Rec) (w : World) (hd : r.d.size ≤ 9223372036854775807) :
 Calls Tryz.prog 181 #[recVal r] w fun e w' => e = .returned (.int .i64 (Rp.fault r)) ∧ Below w.heap.size w w' := by
 have C1 := zid fun W : World => within_any r.a W
 have C2 := zid fun W : World => within_any r.t W
 have F1 := zid (@Rp.fault_a r)
 have F2 := zid (@Rp.fault_t r)
 have F3 := zid (@Rp.fault_d r)
 have F4 := zid (@Rp.fault_ok r)
 unfold recVal
 rcases h1 : Rp.inB r.a with _ | _
 · rw [h1] at C1
   have HF := zid (F1.out h1)
   clear h1
   go_enter Tryz.func181, Tryz.ntmps181
   go_wp2_with fail
   refine (C1.out _).mono ?_
   rintro e w' ⟨rfl, rfl⟩
   go_wp2_with fail
   go_ret
   exact ⟨by rw [HF.out]; rfl, (Below.refl _ _).alloc (Nat.le_refl _) _⟩
 have H1 := zid h1
 rw [h1] at C1
 clear h1
 rcases h2 : Rp.inB r.t with _ | _
 · rw [h2] at C2
   have HF := zid (F2.out h2)
   clear h2
   go_enter Tryz.func181, Tryz.ntmps181
   go_wp2_with fail
   refine (C1.out _).mono ?_
   rintro e w' ⟨rfl, rfl⟩
   go_wp2_with fail
   refine (C2.out _).mono ?_
   rintro e w' ⟨rfl, rfl⟩
   go_wp2_with fail
   go_ret
   exact ⟨by rw [HF.out]; rfl, (Below.refl _ _).alloc (Nat.le_refl _) _⟩
 have H2 := zid h2
 rw [h2] at C2
 clear h2
 by_cases h3 : 64 < (r.d.size : Int)
 · have HF := zid (F3.out H1.out H2.out (by omega))
   go_enter Tryz.func181, Tryz.ntmps181
   go_wp2_with fail
   refine (C1.out _).mono ?_
   rintro e w' ⟨rfl, rfl⟩
   go_wp2_with fail
   refine (C2.out _).mono ?_
   rintro e w' ⟨rfl, rfl⟩
   go_wp2_with fail
   go_ret
   exact ⟨by rw [HF.out]; rfl, (Below.refl _ _).alloc (Nat.le_refl _) _⟩
 · have HF := zid (F4.out H1.out H2.out (by omega))
   go_enter Tryz.func181, Tryz.ntmps181
   go_wp2_with fail
   refine (C1.out _).mono ?_
   rintro e w' ⟨rfl, rfl⟩
   go_wp2_with fail
   refine (C2.out _).mono ?_
   rintro e w' ⟨rfl, rfl⟩
   go_wp2_with fail
   go_ret
   exact ⟨by rw [HF.out]; rfl, (Below.refl _ _).alloc (Nat.le_refl _) _⟩
def okB (r : Rp.Rec) : Bool := decide (Rp.fault r = 0)
theorem okB_yes {r : Rp.Rec} (h : Rp.fault r = 0) : okB r = true := decide_eq_true h
theorem okB_no {r : Rp.Rec} (h : Rp.fault r ≠ 0) : okB r = false := decide_eq_false h
def putVal (r : Rp.Rec) : Value := .tuple #[.string ⟨(Rp.putB r).toArray⟩, .int .i64 (Rp.fault r)]
theorem putVal_yes {r : Rp.Rec} (h : Rp.fault r = 0) : putVal r = .tuple #[.string ⟨(Fr.fr (Rp.body r)).toArray⟩, .int .i64 0] := by
 unfold putVal
 rw [Rp.putB_yes h, h]
theorem body_str (a b : List UInt8) (s : ByteArray) : (⟨a.toArray⟩ ++ ⟨b.toArray⟩ ++ s : ByteArray).data.toList = a ++ b ++ s.data.toList := by simp
theorem putI_pos {n : Int} (h : 0 ≤ n) : putI n = Vp.put n.toNat := by unfold putI; rw [if_neg (by omega)]
theorem why_any (r : Rp.Rec) (w : World) (hd : r.d.size ≤ 9223372036854775807) :
 Calls Tryz.prog 107 #[recVal r] w fun e w' => e = .returned (.int .i64 (Rp.fault r)) ∧ Below w.heap.size w w' := by
 have C1 := zid fun W : World => rwithin_any r.a W
 have C2 := zid fun W : World => rwithin_any r.t W
 have F1 := zid (@Rp.fault_a r)
 have F2 := zid (@Rp.fault_t r)
 have F3 := zid (@Rp.fault_d r)
 have F4 := zid (@Rp.fault_ok r)
 unfold recVal
 rcases h1 : Rp.inB r.a with _ | _
 · rw [h1] at C1
   have HF := zid (F1.out h1)
   clear h1
   go_enter Tryz.func107, Tryz.ntmps107
   go_wp2_with fail
   refine (C1.out _).mono ?_
   rintro e w' ⟨rfl, rfl⟩
   go_wp2_with fail
   go_ret
   exact ⟨by rw [HF.out]; rfl, (Below.refl _ _).alloc (Nat.le_refl _) _⟩
 have H1 := zid h1
 rw [h1] at C1
 clear h1
 rcases h2 : Rp.inB r.t with _ | _
 · rw [h2] at C2
   have HF := zid (F2.out h2)
   clear h2
   go_enter Tryz.func107, Tryz.ntmps107
   go_wp2_with fail
   refine (C1.out _).mono ?_
   rintro e w' ⟨rfl, rfl⟩
   go_wp2_with fail
   refine (C2.out _).mono ?_
   rintro e w' ⟨rfl, rfl⟩
   go_wp2_with fail
   go_ret
   exact ⟨by rw [HF.out]; rfl, (Below.refl _ _).alloc (Nat.le_refl _) _⟩
 have H2 := zid h2
 rw [h2] at C2
 clear h2
 by_cases h3 : 64 < (r.d.size : Int)
 · have HF := zid (F3.out H1.out H2.out (by omega))
   go_enter Tryz.func107, Tryz.ntmps107
   go_wp2_with fail
   refine (C1.out _).mono ?_
   rintro e w' ⟨rfl, rfl⟩
   go_wp2_with fail
   refine (C2.out _).mono ?_
   rintro e w' ⟨rfl, rfl⟩
   go_wp2_with fail
   go_ret
   exact ⟨by rw [HF.out]; rfl, (Below.refl _ _).alloc (Nat.le_refl _) _⟩
 · have HF := zid (F4.out H1.out H2.out (by omega))
   go_enter Tryz.func107, Tryz.ntmps107
   go_wp2_with fail
   refine (C1.out _).mono ?_
   rintro e w' ⟨rfl, rfl⟩
   go_wp2_with fail
   refine (C2.out _).mono ?_
   rintro e w' ⟨rfl, rfl⟩
   go_wp2_with fail
   go_ret
   exact ⟨by rw [HF.out]; rfl, (Below.refl _ _).alloc (Nat.le_refl _) _⟩
theorem okB_six {r : Rp.Rec} (h : Rp.fault r = 6) : okB r = false := okB_no (by omega)
theorem okB_five {r : Rp.Rec} (h : Rp.fault r = 5) : okB r = false := okB_no (by omega)
theorem rright_any (r : Rp.Rec) (w : World) (hd : r.d.size ≤ 9223372036854775807) :
 Calls Tryz.prog 57 #[recVal r] w fun e w' => e = .returned (.bool (okB r)) ∧ Below w.heap.size w w' := by
 have C1 := zid fun W : World => rwithin_any r.a W
 have C2 := zid fun W : World => rwithin_any r.t W
 have F1 := zid (@Rp.fault_a r)
 have F2 := zid (@Rp.fault_t r)
 have F3 := zid (@Rp.fault_d r)
 have F4 := zid (@Rp.fault_ok r)
 unfold recVal
 rcases h1 : Rp.inB r.a with _ | _
 · rw [h1] at C1
   rw [okB_six (F1.out h1)]
   clear h1
   go_enter Tryz.func57, Tryz.ntmps57
   go_wp2_with fail
   refine (C1.out _).mono ?_
   rintro e w' ⟨rfl, rfl⟩
   go_wp2_with fail
   go_ret
   exact ⟨rfl, (Below.refl _ _).alloc (Nat.le_refl _) _⟩
 have H1 := zid h1
 rw [h1] at C1
 clear h1
 rcases h2 : Rp.inB r.t with _ | _
 · rw [h2] at C2
   rw [okB_six (F2.out h2)]
   clear h2
   go_enter Tryz.func57, Tryz.ntmps57
   go_wp2_with fail
   refine (C1.out _).mono ?_
   rintro e w' ⟨rfl, rfl⟩
   go_wp2_with fail
   refine (C2.out _).mono ?_
   rintro e w' ⟨rfl, rfl⟩
   go_wp2_with fail
   go_ret
   exact ⟨rfl, (Below.refl _ _).alloc (Nat.le_refl _) _⟩
 have H2 := zid h2
 rw [h2] at C2
 clear h2
 by_cases h3 : (r.d.size : Int) ≤ 64
 · rw [okB_yes (F4.out H1.out H2.out (by omega))]
   go_enter Tryz.func57, Tryz.ntmps57
   go_wp2_with fail
   refine (C1.out _).mono ?_
   rintro e w' ⟨rfl, rfl⟩
   go_wp2_with fail
   refine (C2.out _).mono ?_
   rintro e w' ⟨rfl, rfl⟩
   go_wp2_with fail
   go_ret
   exact ⟨rfl, (Below.refl _ _).alloc (Nat.le_refl _) _⟩
 · rw [okB_five (F3.out H1.out H2.out (by omega))]
   have h4 : decide ((r.d.size : Int) ≤ 64) = false := by simp; omega
   clear h3
   go_enter Tryz.func57, Tryz.ntmps57
   go_wp2_with fail
   refine (C1.out _).mono ?_
   rintro e w' ⟨rfl, rfl⟩
   go_wp2_with fail
   refine (C2.out _).mono ?_
   rintro e w' ⟨rfl, rfl⟩
   go_wp2_with fail
   go_ret
   exact ⟨rfl, (Below.refl _ _).alloc (Nat.le_refl _) _⟩
theorem rbody_any (r : Rp.Rec) (w : World) (h : Rp.Ok r) :
 Calls Tryz.prog 109 #[recVal r] w fun e w' => e = .returned (.string (⟨(putI r.a).toArray⟩ ++ ⟨(putI r.t).toArray⟩ ++ r.d)) ∧ Below w.heap.size w w' := by
 have l1 : (putI r.a).length ≤ 9 := putI_len_le _
 have l2 : (putI r.t).length ≤ 9 := putI_len_le _
 have l3 : r.d.size ≤ 64 := h.2.2.2.2
 have a0 := h.1
 have a1 := h.2.1
 have t0 := h.2.2.1
 have t1 := h.2.2.2.1
 have s1 : ¬ 9223372036854775807 < (putI r.a).length + (putI r.t).length := by omega
 have s2 : ¬ 9223372036854775807 < (putI r.a).length + (putI r.t).length + r.d.size := by omega
 clear h
 unfold recVal
 go_enter Tryz.func109, Tryz.ntmps109
 go_wp2_with fail
 have hbox := box_new w (.int .i64 r.a) (.int .i64 r.t) (.string r.d) 47
 go_region_held3 (fun w' => w'.cell? ⟨w.heap.size, 0, none⟩ = some (.int .i64 r.a) ∧ w'.cell? ⟨w.heap.size, 1, none⟩ = some (.int .i64 r.t) ∧ w'.cell? ⟨w.heap.size, 2, none⟩ = some (.string r.d) ∧ Below w.heap.size w w')
  (first | assumption | exact box_keep (by assumption) (Below.refl _ _).drew | exact box_keep (by assumption) (by assumption))
  ((go_at_call 81; refine (rput_any _ _ (by omega) (by omega)).mono ?_; rintro e w4 ⟨rfl, b4⟩))
 go_wp2_with fail
 go_ret
 obtain ⟨_, _, _, hb⟩ := ‹_ ∧ _ ∧ _ ∧ Below w.heap.size w w4›
 exact ⟨rfl, hb⟩
theorem rrecput_yes (r : Rp.Rec) (w : World) (h : Rp.Ok r) :
 Calls Tryz.prog 59 #[recVal r] w fun e w' => e = .returned (putVal r) ∧ Below w.heap.size w w' := by
 have hf := Rp.fault_zero h
 have C := fun W : World => why_any r W (by have := h.2.2.2.2; omega)
 rw [hf] at C
 have C := zid C
 have HV := zid (putVal_yes hf)
 have hb : (⟨(putI r.a).toArray⟩ ++ ⟨(putI r.t).toArray⟩ ++ r.d : ByteArray).data.toList = Rp.body r := by rw [body_str, putI_pos h.1, putI_pos h.2.2.1]; rfl
 have hs : (⟨(putI r.a).toArray⟩ ++ ⟨(putI r.t).toArray⟩ ++ r.d : ByteArray).size = (Rp.body r).length := by rw [← hb]; rfl
 have F := fun W : World => rfput_yes (⟨(putI r.a).toArray⟩ ++ ⟨(putI r.t).toArray⟩ ++ r.d) W (by rw [hs]; exact Rp.body_may h)
 rw [hb] at F
 have D := fun W : World => rbody_any r W h
 generalize (⟨(putI r.a).toArray⟩ ++ ⟨(putI r.t).toArray⟩ ++ r.d : ByteArray) = B at *
 have F := zid F
 have D := zid D
 clear hb hs hf h
 unfold recVal at C D ⊢
 go_enter Tryz.func59, Tryz.ntmps59
 go_wp2_with fail
 refine (C.out _).mono ?_
 rintro e w1 ⟨rfl, b1⟩
 obtain ⟨x0, x1, x2, hb⟩ := box_keep (box_new w _ _ _ _) b1
 go_wp2_with fail
 refine (D.out _).mono ?_
 rintro e w2 ⟨rfl, b2⟩
 go_wp2_with fail
 refine (F.out _).mono ?_
 rintro e w3 ⟨rfl, b3⟩
 go_wp2_with fail
 go_ret2
 exact ⟨by rw [HV.out]; rfl, bel_trans2 (bel_trans2 hb b2) b3⟩
def getVal (l : List UInt8) : Value := .tuple #[recVal (Rp.get l).1, .int .i64 (Rp.get l).2]
theorem getVal_no {l : List UInt8} {e : Int} (h : Rp.get l = (Rp.zero, e)) : getVal l = .tuple #[.agg #[.int .i64 0, .int .i64 0, .string ⟨#[]⟩], .int .i64 e] := by
 unfold getVal
 rw [h]
 rfl
theorem getVal_yes {l : List UInt8} {r : Rp.Rec} (h : Rp.get l = (r, 0)) : getVal l = .tuple #[recVal r, .int .i64 0] := by
 unfold getVal
 rw [h]
theorem rget_none (s : ByteArray) (w : World) (hs : s.size ≤ 9223372036854775807) (ht : Vp.take s.data.toList = none) :
 Calls Tryz.prog 169 #[.string s] w fun e w' => e = .returned (getVal s.data.toList) ∧ Below w.heap.size w w' := by
 have C := fun W : World => rread_any s 0 W hs
 rw [show rdAt s 0 = .tuple #[.int .i64 0, .int .i64 0, .bool false] from rdVal_none 0 ht] at C
 have C := zid C
 have HV := zid (getVal_no (Rp.get_none ht))
 clear ht
 go_enter Tryz.func169, Tryz.ntmps169
 go_wp2_with fail
 refine (C.out _).mono ?_
 rintro e w1 ⟨rfl, b1⟩
 obtain ⟨hc, hf⟩ := bcell b1
 go_wp2_with fail
 have hb : Below w.heap.size w w1 := bel_of_alloc b1
 exact bodyPost_ret (v := .tuple #[.agg #[.int .i64 0, .int .i64 0, .string ⟨#[]⟩], .int .i64 3]) (by simp [results, Tryz.results169, go_sem, hc]) rfl
  ⟨by rw [HV.out], ((hb.setCell (p := ⟨w.heap.size, 0, none⟩) (Nat.le_refl _) _).setCell (p := ⟨w.heap.size, 1, none⟩) (Nat.le_refl _) _).setCell (p := ⟨w.heap.size, 2, none⟩) (Nat.le_refl _) _⟩
theorem rget_half (s : ByteArray) (w : World) (hs : s.size ≤ 9223372036854775807) (n j : Nat) (ht : Vp.take s.data.toList = some (n, j)) (ht2 : Vp.take (s.data.toList.drop j) = none) :
 Calls Tryz.prog 169 #[.string s] w fun e w' => e = .returned (getVal s.data.toList) ∧ Below w.heap.size w w' := by
 have C := fun W : World => rread_any s ((0 : Nat) : Int) W hs
 rw [rdAt_some (k := 0) ht (Nat.zero_add j)] at C
 have C : ∀ W : World, Calls Tryz.prog 101 #[.string s, .int .i64 0] W fun e w' => e = .returned (.tuple #[.int .i64 (n : Int), .int .i64 (j : Int), .bool true]) ∧ Below W.heap.size W w' := C
 have C := zid C
 have D := fun W : World => rread_any s (j : Int) W hs
 rw [rdAt_none ht2] at D
 have D := zid D
 have HV := zid (getVal_no (Rp.get_half ht ht2))
 clear ht ht2
 go_enter Tryz.func169, Tryz.ntmps169
 go_wp2_with fail
 refine (C.out _).mono ?_
 rintro e w1 ⟨rfl, b1⟩
 go_wp2_with fail
 refine (D.out _).mono ?_
 rintro e w2 ⟨rfl, b2⟩
 have b12 := bel_trans2 b1 b2
 obtain ⟨hc, hf⟩ := bcell b12
 go_wp2_with fail
 have hb : Below w.heap.size w w2 := bel_of_alloc b12
 exact bodyPost_ret (v := .tuple #[.agg #[.int .i64 0, .int .i64 0, .string ⟨#[]⟩], .int .i64 3]) (by simp [results, Tryz.results169, go_sem, hc]) rfl
  ⟨by rw [HV.out], ((hb.setCell (p := ⟨w.heap.size, 0, none⟩) (Nat.le_refl _) _).setCell (p := ⟨w.heap.size, 1, none⟩) (Nat.le_refl _) _).setCell (p := ⟨w.heap.size, 2, none⟩) (Nat.le_refl _) _⟩
theorem rget_whole (s : ByteArray) (w : World) (hs : s.size ≤ 9223372036854775807) (n j m k : Nat) (ht : Vp.take s.data.toList = some (n, j)) (ht2 : Vp.take (s.data.toList.drop j) = some (m, k)) :
 Calls Tryz.prog 169 #[.string s] w fun e w' => e = .returned (getVal s.data.toList) ∧ Below w.heap.size w w' := by
 have C := fun W : World => rread_any s ((0 : Nat) : Int) W hs
 rw [rdAt_some (k := 0) ht (Nat.zero_add j)] at C
 have C : ∀ W : World, Calls Tryz.prog 101 #[.string s, .int .i64 0] W fun e w' => e = .returned (.tuple #[.int .i64 (n : Int), .int .i64 (j : Int), .bool true]) ∧ Below W.heap.size W w' := C
 have C := zid C
 obtain ⟨q, hq⟩ : ∃ q, j + k = q := ⟨_, rfl⟩
 have D := fun W : World => rread_any s (j : Int) W hs
 rw [rdAt_some ht2 hq] at D
 have D := zid D
 have hjl := (Vp.take_some ht).2.2.1
 have hkl := (Vp.take_some ht2).2.2.1
 rw [List.length_drop] at hkl
 rw [show s.data.toList.length = s.size from rfl] at hjl hkl
 have q0 : (0 : Int) ≤ (q : Int) := by omega
 have q1 : (q : Int) ≤ (s.size : Int) := by omega
 have E := fun W : World => why_any ⟨(n : Int), (m : Int), s.extract q s.size⟩ W (by show (s.extract q s.size).size ≤ _; rw [ByteArray.size_extract]; omega)
 have hG := @Rp.get_bad s.data.toList n j m k ht ht2
 have hY := @Rp.get_yes s.data.toList n j m k ht ht2
 rw [hq, ext_drop] at hG hY
 clear ht ht2 hq hjl hkl
 unfold recVal at E
 dsimp only at E
 rcases Rp.fault_cases ⟨(n : Int), (m : Int), s.extract q s.size⟩ with ⟨hf0, _⟩ | ⟨_, hf0⟩
 · have HV := zid (getVal_yes (hY hf0))
   rw [hf0] at E
   have E := zid E
   clear hf0 hG hY
   go_enter Tryz.func169, Tryz.ntmps169
   go_wp2_with fail
   refine (C.out _).mono ?_
   rintro e w1 ⟨rfl, b1⟩
   go_wp2_with fail
   refine (D.out _).mono ?_
   rintro e w2 ⟨rfl, b2⟩
   have b12 := bel_trans2 b1 b2
   go_wp2_with fail
   refine (E.out _).mono ?_
   rintro e w3 ⟨rfl, b3⟩
   obtain ⟨x0, x1, x2, b23⟩ := box_keep (box_new w2 _ _ _ _) b3
   have b123 := bel_trans2 b12 b23
   obtain ⟨hc, hf⟩ := bcell b123
   go_wp2_with fail
   have hb : Below w.heap.size w w3 := bel_of_alloc b123
   exact bodyPost_ret (v := .tuple #[.agg #[.int .i64 (n : Int), .int .i64 (m : Int), .string (s.extract q s.size)], .int .i64 0]) (by simp [results, Tryz.results169, go_sem, hc]) rfl
    ⟨by rw [HV.out]; rfl, ((hb.setCell (p := ⟨w.heap.size, 0, none⟩) (Nat.le_refl _) _).setCell (p := ⟨w.heap.size, 1, none⟩) (Nat.le_refl _) _).setCell (p := ⟨w.heap.size, 2, none⟩) (Nat.le_refl _) _⟩
 · obtain ⟨e0, he0⟩ : ∃ e0, Rp.fault ⟨(n : Int), (m : Int), s.extract q s.size⟩ = e0 := ⟨_, rfl⟩
   rw [he0] at E hf0 hG
   have HV := zid (getVal_no (hG (by omega)))
   have E := zid E
   clear hG hY he0
   rcases hf0 with rfl | rfl
   all_goals
    go_enter Tryz.func169, Tryz.ntmps169
    go_wp2_with fail
    refine (C.out _).mono ?_
    rintro e w1 ⟨rfl, b1⟩
    go_wp2_with fail
    refine (D.out _).mono ?_
    rintro e w2 ⟨rfl, b2⟩
    have b12 := bel_trans2 b1 b2
    go_wp2_with fail
    refine (E.out _).mono ?_
    rintro e w3 ⟨rfl, b3⟩
    have b123 := bel_trans2 b12 (bel_of_alloc b3)
    obtain ⟨hc, hf⟩ := bcell b123
    go_wp2_with fail
    have hb : Below w.heap.size w w3 := bel_of_alloc b123
    refine bodyPost_ret (v := .tuple #[.agg #[.int .i64 0, .int .i64 0, .string ⟨#[]⟩], .int .i64 _]) (by simp [results, Tryz.results169, go_sem, hc]; rfl) rfl
     ⟨by rw [HV.out], ((hb.setCell (p := ⟨w.heap.size, 0, none⟩) (Nat.le_refl _) _).setCell (p := ⟨w.heap.size, 1, none⟩) (Nat.le_refl _) _).setCell (p := ⟨w.heap.size, 2, none⟩) (Nat.le_refl _) _⟩
theorem made_func (fn : Fn) (first cap : Array Value) (w : World) : (Instr.makeFunc fn first cap).run Tryz.prog w = .ok (.func fn first cap) w := rfl
structure GB (w : World) (s : ByteArray) (i : Int) (W : World) : Prop where
 h0 : W.heap[w.heap.size]? = some (.cells #[.string s] 9 (0, 0))
 h1 : W.heap[w.heap.size + 1]? = some (.cells #[.int .i64 0, .int .i64 0, .string ⟨#[]⟩] 47 (0, 0))
 h2 : W.heap[w.heap.size + 1 + 1]? = some (.cells #[.int .i64 i] 3 (0, 0))
 b : Below w.heap.size w W
theorem GB.lt {w W : World} {s : ByteArray} {i : Int} (h : GB w s i W) : w.heap.size + 1 + 1 < W.heap.size := by
 rcases Nat.lt_or_ge (w.heap.size + 1 + 1) W.heap.size with h' | h'
 · exact h'
 · have := h.h2
   simp [Array.getElem?_eq_none h'] at this
theorem heap_alloc_lt {w : World} {o : Obj} {k : Nat} {x : Obj} (h : w.heap[k]? = some x) : (w.alloc o).heap[k]? = some x := by
 rw [Lib.alloc_old w o k (by
  rcases Nat.lt_or_ge k w.heap.size with h' | h'
  · exact h'
  · simp [Array.getElem?_eq_none h'] at h)]
 exact h
theorem GB.new (w : World) (s : ByteArray) : GB w s 0 (((w.alloc (.cells #[.string s] 9)).alloc (.cells #[.int .i64 0, .int .i64 0, .string ⟨#[]⟩] 47)).alloc (.cells #[.int .i64 0] 3)) := by
 refine ⟨heap_alloc_lt (heap_alloc_lt (heap_alloc_new w _)), ?_, ?_, ((((Below.refl _ _).alloc (Nat.le_refl _) _).alloc (by simp) _).alloc (by simp; omega) _)⟩
 · refine heap_alloc_lt ?_
   have := heap_alloc_new (w.alloc (.cells #[.string s] 9)) (.cells #[.int .i64 0, .int .i64 0, .string ⟨#[]⟩] 47)
   simpa using this
 · have := heap_alloc_new ((w.alloc (.cells #[.string s] 9)).alloc (.cells #[.int .i64 0, .int .i64 0, .string ⟨#[]⟩] 47)) (.cells #[.int .i64 0] 3)
   simpa using this
theorem GB.step {w W : World} {s : ByteArray} {i : Int} (h : GB w s i W) (k : Nat) (x : Int) : GB w s x ((W.drewN k).setCell ⟨w.heap.size + 1 + 1, 0, none⟩ (.int .i64 x)) := by
 refine ⟨?_, ?_, heap_setCell_same (W.drewN k) (w.heap.size + 1 + 1) 0 #[.int .i64 i] 3 (.int .i64 x) h.h2, (h.b.trans ((below_drewN k).mono h.b.size)).setCell (p := ⟨w.heap.size + 1 + 1, 0, none⟩) (by show w.heap.size ≤ w.heap.size + 1 + 1; omega) _⟩
 · rw [heap_setCell_other _ _ _ _ (by show w.heap.size ≠ w.heap.size + 1 + 1; omega)]; exact h.h0
 · rw [heap_setCell_other _ _ _ _ (by show w.heap.size + 1 ≠ w.heap.size + 1 + 1; omega)]; exact h.h1
theorem GB.below {w W W' : World} {s : ByteArray} {i : Int} (h : GB w s i W) (b : Below W.heap.size W W') : GB w s i W' := by
 have hl := h.lt
 refine ⟨?_, ?_, ?_, h.b.trans (b.mono h.b.size)⟩
 · rw [b.block _ (by omega)]; exact h.h0
 · rw [b.block _ (by omega)]; exact h.h1
 · rw [b.block _ (by omega)]; exact h.h2
theorem GB.c0 {w W : World} {s : ByteArray} {i : Int} (h : GB w s i W) : W.cell? ⟨w.heap.size, 0, none⟩ = some (.string s) := by rw [Lib.cell_of_heap h.h0]; rfl
theorem GB.c2 {w W : World} {s : ByteArray} {i : Int} (h : GB w s i W) : W.cell? ⟨w.heap.size + 1 + 1, 0, none⟩ = some (.int .i64 i) := by rw [Lib.cell_of_heap h.h2]; rfl
theorem GB.f2 {w W : World} {s : ByteArray} {i : Int} (h : GB w s i W) : W.frozen? ⟨w.heap.size + 1 + 1, 0, none⟩ = false := Lib.frozen_of_heap h.h2 0
theorem GB.r {w W : World} {s : ByteArray} {i : Int} (h : GB w s i W) : W.cell? ⟨w.heap.size + 1, 0, none⟩ = some (.int .i64 0) ∧ W.cell? ⟨w.heap.size + 1, 1, none⟩ = some (.int .i64 0) ∧ W.cell? ⟨w.heap.size + 1, 2, none⟩ = some (.string ⟨#[]⟩) :=
 ⟨by rw [Lib.cell_of_heap h.h1]; rfl, by rw [Lib.cell_of_heap h.h1]; rfl, by rw [Lib.cell_of_heap h.h1]; rfl⟩
theorem GB.g {w W : World} {s : ByteArray} {i : Int} (h : GB w s i W) : W.frozen? ⟨w.heap.size + 1, 0, none⟩ = false ∧ W.frozen? ⟨w.heap.size + 1, 1, none⟩ = false ∧ W.frozen? ⟨w.heap.size + 1, 2, none⟩ = false :=
 ⟨Lib.frozen_of_heap h.h1 0, Lib.frozen_of_heap h.h1 1, Lib.frozen_of_heap h.h1 2⟩
theorem GB.set {w W : World} {s : ByteArray} {i : Int} (h : GB w s i W) (x y z : Value) : Below w.heap.size w (((W.setCell ⟨w.heap.size + 1, 0, none⟩ x).setCell ⟨w.heap.size + 1, 1, none⟩ y).setCell ⟨w.heap.size + 1, 2, none⟩ z) :=
 ((h.b.setCell (p := ⟨w.heap.size + 1, 0, none⟩) (Nat.le_succ _) _).setCell (p := ⟨w.heap.size + 1, 1, none⟩) (Nat.le_succ _) _).setCell (p := ⟨w.heap.size + 1, 2, none⟩) (Nat.le_succ _) _
theorem clo_any (s : ByteArray) (i n nx : Int) (ok : Bool) (b1 b2 : Nat) (w : World) (hs : s.size ≤ 9223372036854775807)
 (hr : rdAt s i = .tuple #[.int .i64 n, .int .i64 nx, .bool ok])
 (h1 : w.cell? ⟨b1, 0, none⟩ = some (.string s)) (h2 : w.cell? ⟨b2, 0, none⟩ = some (.int .i64 i)) (hf : w.frozen? ⟨b2, 0, none⟩ = false) :
 Calls Tryz.prog 180 #[.pointer (some ⟨b1, 0, none⟩), .pointer (some ⟨b2, 0, none⟩)] w fun e w' => e = .returned (.tuple #[.int .i64 n, .bool ok]) ∧ ∃ k, w' = (w.drewN k).setCell ⟨b2, 0, none⟩ (.int .i64 nx) := by
 have C := fun W : World => read_any s i W hs
 rw [hr] at C
 have C := zid C
 clear hr
 go_enter Tryz.func180, Tryz.ntmps180
 go_wp2_with fail
 refine (C.out _).mono ?_
 rintro e w1 ⟨rfl, k, rfl⟩
 go_wp2_with fail
 go_ret2
 exact ⟨rfl, k, rfl⟩
theorem get_none (s : ByteArray) (w : World) (hs : s.size ≤ 9223372036854775807) (ht : Vp.take s.data.toList = none) :
 Calls Tryz.prog 167 #[.string s] w fun e w' => e = .returned (getVal s.data.toList) ∧ Below w.heap.size w w' := by
 have C := fun b1 b2 (W : World) => clo_any s 0 0 0 false b1 b2 W hs (rdVal_none 0 ht)
 have C := zid C
 have HV := zid (getVal_no (Rp.get_none ht))
 have hmf := made_func
 clear ht
 go_enter Tryz.func167, Tryz.ntmps167
 go_wp2_with fail
 have G0 := GB.new w s
 refine (C.out _ _ _ G0.c0 G0.c2 G0.f2).mono ?_
 rintro e w1 ⟨rfl, k, rfl⟩
 have G1 := G0.step k 0
 generalize World.setCell _ _ _ = w1 at G1 ⊢
 have HG := zid G1
 obtain ⟨r0, r1, r2⟩ := G1.r
 obtain ⟨g0, g1, g2⟩ := G1.g
 clear G0 G1
 go_wp2_with fail
 exact bodyPost_ret (v := .tuple #[.agg #[.int .i64 0, .int .i64 0, .string ⟨#[]⟩], .int .i64 3]) (by simp [results, Tryz.results167, go_sem, r0, r1, r2]) rfl
  ⟨by rw [HV.out], HG.out.set _ _ _⟩
theorem get_half (s : ByteArray) (w : World) (hs : s.size ≤ 9223372036854775807) (n j : Nat) (ht : Vp.take s.data.toList = some (n, j)) (ht2 : Vp.take (s.data.toList.drop j) = none) :
 Calls Tryz.prog 167 #[.string s] w fun e w' => e = .returned (getVal s.data.toList) ∧ Below w.heap.size w w' := by
 have C := fun b1 b2 (W : World) => clo_any s 0 n j true b1 b2 W hs (rdAt_some (k := 0) ht (Nat.zero_add j))
 have C := zid C
 have D := fun b1 b2 (W : World) => clo_any s j 0 0 false b1 b2 W hs (rdAt_none ht2)
 have D := zid D
 have HV := zid (getVal_no (Rp.get_half ht ht2))
 have hmf := made_func
 clear ht ht2
 go_enter Tryz.func167, Tryz.ntmps167
 go_wp2_with fail
 have G0 := GB.new w s
 refine (C.out _ _ _ G0.c0 G0.c2 G0.f2).mono ?_
 rintro e w1 ⟨rfl, k, rfl⟩
 have G1 := G0.step k j
 generalize World.setCell _ _ _ = w1 at G1 ⊢
 clear G0
 have HG := zid G1
 clear G1
 go_wp2_with fail
 refine (D.out _ _ _ HG.out.c0 HG.out.c2 HG.out.f2).mono ?_
 rintro e w2 ⟨rfl, k2, rfl⟩
 have G2 := HG.out.step k2 0
 generalize World.setCell _ _ _ = w2 at G2 ⊢
 have HG2 := zid G2
 obtain ⟨r0, r1, r2⟩ := G2.r
 obtain ⟨g0, g1, g2⟩ := G2.g
 clear G2
 go_wp2_with fail
 exact bodyPost_ret (v := .tuple #[.agg #[.int .i64 0, .int .i64 0, .string ⟨#[]⟩], .int .i64 3]) (by simp [results, Tryz.results167, go_sem, r0, r1, r2]) rfl
  ⟨by rw [HV.out], HG2.out.set _ _ _⟩
theorem get_whole (s : ByteArray) (w : World) (hs : s.size ≤ 9223372036854775807) (n j m k : Nat) (ht : Vp.take s.data.toList = some (n, j)) (ht2 : Vp.take (s.data.toList.drop j) = some (m, k)) :
 Calls Tryz.prog 167 #[.string s] w fun e w' => e = .returned (getVal s.data.toList) ∧ Below w.heap.size w w' := by
 have C := fun b1 b2 (W : World) => clo_any s 0 n j true b1 b2 W hs (rdAt_some (k := 0) ht (Nat.zero_add j))
 have C := zid C
 obtain ⟨q, hq⟩ : ∃ q, j + k = q := ⟨_, rfl⟩
 have D := fun b1 b2 (W : World) => clo_any s j m q true b1 b2 W hs (rdAt_some ht2 hq)
 have D := zid D
 have hjl := (Vp.take_some ht).2.2.1
 have hkl := (Vp.take_some ht2).2.2.1
 rw [List.length_drop] at hkl
 rw [show s.data.toList.length = s.size from rfl] at hjl hkl
 have q0 : (0 : Int) ≤ (q : Int) := by omega
 have q1 : (q : Int) ≤ (s.size : Int) := by omega
 have E := fun W : World => fault_any ⟨(n : Int), (m : Int), s.extract q s.size⟩ W (by show (s.extract q s.size).size ≤ _; rw [ByteArray.size_extract]; omega)
 have hG := @Rp.get_bad s.data.toList n j m k ht ht2
 have hY := @Rp.get_yes s.data.toList n j m k ht ht2
 rw [hq, ext_drop] at hG hY
 clear ht ht2 hq hjl hkl
 unfold recVal at E
 dsimp only at E
 have hmf := made_func
 rcases Rp.fault_cases ⟨(n : Int), (m : Int), s.extract q s.size⟩ with ⟨hf0, _⟩ | ⟨_, hf0⟩
 · have HV := zid (getVal_yes (hY hf0))
   rw [hf0] at E
   have E := zid E
   clear hf0 hG hY
   go_enter Tryz.func167, Tryz.ntmps167
   go_wp2_with fail
   have G0 := GB.new w s
   refine (C.out _ _ _ G0.c0 G0.c2 G0.f2).mono ?_
   rintro e w1 ⟨rfl, k1, rfl⟩
   have G1 := G0.step k1 j
   generalize World.setCell _ _ _ = w1 at G1 ⊢
   clear G0
   have HG := zid G1
   clear G1
   go_wp2_with fail
   refine (D.out _ _ _ HG.out.c0 HG.out.c2 HG.out.f2).mono ?_
   rintro e w2 ⟨rfl, k2, rfl⟩
   have G2 := HG.out.step k2 q
   generalize World.setCell _ _ _ = w2 at G2 ⊢
   have HG2 := zid G2
   have x0 := G2.c0
   have x2 := G2.c2
   clear G2
   go_wp2_with fail
   refine (E.out _).mono ?_
   rintro e w3 ⟨rfl, b3⟩
   obtain ⟨y0, y1, y2, b23⟩ := box_keep (box_new w2 _ _ _ _) b3
   have G3 := HG2.out.below b23
   have HG3 := zid G3
   obtain ⟨r0, r1, r2⟩ := G3.r
   obtain ⟨g0, g1, g2⟩ := G3.g
   clear G3
   go_wp2_with fail
   exact bodyPost_ret (v := .tuple #[.agg #[.int .i64 (n : Int), .int .i64 (m : Int), .string (s.extract q s.size)], .int .i64 0]) (by simp [results, Tryz.results167, go_sem, r0, r1, r2]) rfl
    ⟨by rw [HV.out]; rfl, HG3.out.set _ _ _⟩
 · obtain ⟨e0, he0⟩ : ∃ e0, Rp.fault ⟨(n : Int), (m : Int), s.extract q s.size⟩ = e0 := ⟨_, rfl⟩
   rw [he0] at E hf0 hG
   have HV := zid (getVal_no (hG (by omega)))
   have E := zid E
   clear hG hY he0
   rcases hf0 with rfl | rfl
   all_goals
    go_enter Tryz.func167, Tryz.ntmps167
    go_wp2_with fail
    have G0 := GB.new w s
    refine (C.out _ _ _ G0.c0 G0.c2 G0.f2).mono ?_
    rintro e w1 ⟨rfl, k1, rfl⟩
    have G1 := G0.step k1 j
    generalize World.setCell _ _ _ = w1 at G1 ⊢
    clear G0
    have HG := zid G1
    clear G1
    go_wp2_with fail
    refine (D.out _ _ _ HG.out.c0 HG.out.c2 HG.out.f2).mono ?_
    rintro e w2 ⟨rfl, k2, rfl⟩
    have G2 := HG.out.step k2 q
    generalize World.setCell _ _ _ = w2 at G2 ⊢
    have HG2 := zid G2
    have x0 := G2.c0
    have x2 := G2.c2
    clear G2
    go_wp2_with fail
    refine (E.out _).mono ?_
    rintro e w3 ⟨rfl, b3⟩
    have G3 := HG2.out.below (bel_of_alloc b3)
    have HG3 := zid G3
    obtain ⟨r0, r1, r2⟩ := G3.r
    obtain ⟨g0, g1, g2⟩ := G3.g
    clear G3
    go_wp2_with fail
    refine bodyPost_ret (v := .tuple #[.agg #[.int .i64 0, .int .i64 0, .string ⟨#[]⟩], .int .i64 _]) (by simp [results, Tryz.results167, go_sem, r0, r1, r2]; rfl) rfl
     ⟨by rw [HV.out], HG3.out.set _ _ _⟩
theorem get_any (s : ByteArray) (w : World) (hs : s.size ≤ 9223372036854775807) :
 Calls Tryz.prog 167 #[.string s] w fun e w' => e = .returned (getVal s.data.toList) ∧ Below w.heap.size w w' := by
 rcases ht : Vp.take s.data.toList with _ | ⟨n, j⟩
 · exact get_none s w hs ht
 rcases ht2 : Vp.take (s.data.toList.drop j) with _ | ⟨m, k⟩
 · exact get_half s w hs n j ht ht2
 · exact get_whole s w hs n j m k ht ht2
theorem rget_any (s : ByteArray) (w : World) (hs : s.size ≤ 9223372036854775807) :
 Calls Tryz.prog 169 #[.string s] w fun e w' => e = .returned (getVal s.data.toList) ∧ Below w.heap.size w w' := by
 rcases ht : Vp.take s.data.toList with _ | ⟨n, j⟩
 · exact rget_none s w hs ht
 rcases ht2 : Vp.take (s.data.toList.drop j) with _ | ⟨m, k⟩
 · exact rget_half s w hs n j ht ht2
 · exact rget_whole s w hs n j m k ht ht2
end
section
open Go.RowKit Go.ChangeShapes Go.WideShapes Go.Deep Go.Joins
def IsRecs (w : World) (v : Value) (rs : List Rp.Rec) : Prop :=
 ∃ a cap, v = .slice a rs.length cap ∧ rs.length ≤ maxLen ∧ (∀ r ∈ rs, RecOk r) ∧
  (rs = [] ∨ ∃ b off, a = some ⟨b, off, none⟩ ∧ ∀ i, i < rs.length →
   w.cell? ⟨b, off + i * 3, none⟩ = some (.int .i64 (rs.getD i Rp.zero).a) ∧ w.cell? ⟨b, off + i * 3 + 1, none⟩ = some (.int .i64 (rs.getD i Rp.zero).t) ∧ w.cell? ⟨b, off + i * 3 + 2, none⟩ = some (.string (rs.getD i Rp.zero).d))
theorem IsRecs.nil (w : World) (a : Option Addr) (cap : Nat) : IsRecs w (.slice a 0 cap) [] := ⟨a, cap, rfl, by simp, by simp, .inl rfl⟩
section
variable {H : Type} {enc : TypeId × Value → H} {w : World} {base : Nat} {spare : Nat → Bool} {held : Bool}
theorem add_plain (b off j : Nat) : (⟨b, off, none⟩ : Addr).add j = ⟨b, off + j, none⟩ := by
 unfold Addr.add
 split <;> simp_all
end
section
variable {H : Type} {enc : TypeId × Value → H} {w : World} {base : Nat} {spare : Nat → Bool} {held : Bool}
end
theorem IsRecs.take {w : World} {a : Option Addr} {n cap k : Nat} {rs : List Rp.Rec} (h : IsRecs w (.slice a n cap) rs) (hk : k ≤ n) : IsRecs w (.slice a k cap) (rs.take k) := by
 obtain ⟨a', cap', e, h1, h2, h3⟩ := h
 injection e with e1 e2 e3
 subst e1 e2 e3
 have hl : (rs.take k).length = k := by rw [List.length_take]; omega
 refine ⟨a, cap, by rw [hl], by omega, fun r hr => h2 r (List.mem_of_mem_take hr), ?_⟩
 rcases h3 with rfl | ⟨b, off, rfl, h4⟩
 · exact .inl (by simp)
 · refine .inr ⟨b, off, rfl, fun i hi => ?_⟩
   rw [hl] at hi
   have e : (rs.take k).getD i Rp.zero = rs.getD i Rp.zero := by simp [List.getD_eq_getElem?_getD, hi]
   rw [e]
   exact h4 i (by omega)
end
section
open Go.RowKit
def recVals (rs : List Rp.Rec) : List Value := rs.flatMap fun r => [.int .i64 r.a, .int .i64 r.t, .string r.d]
theorem recVals_len (rs : List Rp.Rec) : (recVals rs).length = rs.length * 3 := by
 induction rs with
 | nil => rfl
 | cons r rs ih => simp [recVals] at ih ⊢; omega
theorem recVals_snoc (rs : List Rp.Rec) (r : Rp.Rec) : recVals (rs ++ [r]) = recVals rs ++ [.int .i64 r.a, .int .i64 r.t, .string r.d] := by simp [recVals]
theorem recVals_get (rs : List Rp.Rec) : ∀ i, i < rs.length → (recVals rs)[i * 3]? = some (.int .i64 (rs.getD i Rp.zero).a) ∧ (recVals rs)[i * 3 + 1]? = some (.int .i64 (rs.getD i Rp.zero).t) ∧ (recVals rs)[i * 3 + 2]? = some (.string (rs.getD i Rp.zero).d) := by
 induction rs with
 | nil => intro i hi; simp at hi
 | cons r rs ih =>
  intro i hi
  have e : recVals (r :: rs) = .int .i64 r.a :: .int .i64 r.t :: .string r.d :: recVals rs := rfl
  rw [e]
  cases i with
  | zero => exact ⟨rfl, rfl, rfl⟩
  | succ i =>
   have h := ih i (by simpa using hi)
   rw [show (i + 1) * 3 = i * 3 + 3 from by omega]
   simpa using h
theorem info_rec : (Tryz.prog.info? 47).map (fun i => (i.zero, i.size, i.bytes)) = some (some (.agg #[.int .i64 0, .int .i64 0, .string ByteArray.empty]), 3, 32) := by kernel_rfl
theorem RecOk.of {r : Rp.Rec} (h : Rp.Ok r) : RecOk r := ⟨by have := h.1; omega, by have := h.2.1; omega, by have := h.2.2.1; omega, by have := h.2.2.2.1; omega, by have := h.2.2.2.2; omega⟩
theorem IsRecs.own_ok {w : World} {base n : Nat} {v : Value} {rs : List Rp.Rec} (h : w.ownsRow base 47 3 v n (recVals rs)) (hm : n ≤ maxLen) (hb : ∀ r ∈ rs, RecOk r) : IsRecs w v rs := by
 have hn : n = rs.length := by have := h.1; rw [recVals_len] at this; omega
 subst hn
 rcases h.2 with ⟨rfl, h0⟩ | ⟨g, cap, cur, rfl, h1⟩
 · have : rs = [] := by simpa using h0
   subst this
   exact IsRecs.nil w none 0
 · refine ⟨some ⟨g, 0, none⟩, cap, rfl, hm, hb, .inr ⟨g, 0, rfl, fun i hi => ?_⟩⟩
   obtain ⟨c0, c1, c2⟩ := recVals_get rs i hi
   have k0 := h.cells (g := g) rfl _ _ c0
   have k1 := h.cells (g := g) rfl _ _ c1
   have k2 := h.cells (g := g) rfl _ _ c2
   rw [add_plain] at k0 k1 k2
   exact ⟨k0, k1, k2⟩
theorem IsRecs.own {w : World} {base n : Nat} {v : Value} {rs : List Rp.Rec} (h : w.ownsRow base 47 3 v n (recVals rs)) (hm : n ≤ maxLen) (hb : ∀ r ∈ rs, Rp.Ok r) : IsRecs w v rs := IsRecs.own_ok h hm fun r hr => RecOk.of (hb r hr)
theorem news_two (w : World) (o : Obj) (a b c : Value) (T : TypeId) : ∀ (j : Nat) (u : Value), [a, b, c][j]? = some u → ((w.alloc o).alloc (.cells #[a, b, c] T)).cell? ((⟨w.heap.size + 1, 0, none⟩ : Addr).add j) = some u := by
 intro j u h
 have hh : ((w.alloc o).alloc (.cells #[a, b, c] T)).heap[w.heap.size + 1]? = some (.cells #[a, b, c] T (0, 0)) := by
  have := heap_alloc_new (w.alloc o) (.cells #[a, b, c] T)
  simpa using this
 rw [add_plain, Lib.cell_of_heap hh]
 simpa using h
end
end Go.Proofs.YtijbpdpkoamhbaaGreat
