/-
  Parts of what the laws of this seat stand on: StoClo, StoTake, StoTkm.
-/
import Derived.Deep.RegionHeld3
import Derived.Test.YthhhocgpoenigaaBu10
import Derived.Test.YthhhocgpoenigaaBu14
import Derived.Test.YthhhocgpoenigaaBu5
namespace Go.Proofs.Ythhhocgpoenigaa.Sto
open Go.RowKit Go.Proofs.Ythhhocgpoenigaa.So Go.Proofs.Ythhhocgpoenigaa.Dsk Go.Proofs.Ythhhocgpoenigaa.Rts

theorem dk_s {w : World} {fv : Value} {l0 : List Dp.Fl} {R : Dp.Dk × Int} {e : Ending} {w' : World} (h : DkOut w fv l0 R e w') (hv : IsL FL w fv l0) (hS : Sm R.1) : DkAns w fv R e w' := by
  obtain ⟨v, rfl, h⟩ := h
  obtain ⟨a, n, c, rfl⟩ : ∃ a n c, v = .slice a n c := by
    rcases h.k with ⟨e1, _⟩ | k
    · obtain ⟨a, c, h, _⟩ := hv; exact ⟨a, _, c, e1.trans h⟩
    · exact Dsk.own_slice k
  refine ⟨a, n, c, rfl, ?_, ?_, h.w⟩
  · rcases h.k with ⟨e1, e2⟩ | hk
    · rw [e1, e2]; exact hv.keep h.w
    · exact hk.is (by have := hS.n; unfold maxLen; omega) hS.flb
  · intro t ht hs
    rcases h.k with ⟨e1, _⟩ | hk
    · rw [e1]; exact hs
    · exact own_sep hk ht
section
variable {D : Dp.Dk} {k : Nat} {fv : Value} {w : World}
theorem create_s (h : Bd D k) (hk : k ≤ 200000) (n : ByteArray) (hn : n.size ≤ 3000) (hv : IsL FL w fv D.f) : Calls Try.prog 34 #[dkVal fv D, .string n] w (DkAns w fv (Dp.create D n)) :=
  (create_any fv D n w hv (bd_sm3 h (by omega)) (by omega)).mono fun _ _ r => dk_s r hv (bd_sm3 (bd_create h n) (by omega))
theorem append_s (h : Bd D k) (hk : k ≤ 200000) (n s : ByteArray) (hs : s.size ≤ 3000) (hv : IsL FL w fv D.f) : Calls Try.prog 51 #[dkVal fv D, .string n, .string s] w (DkAns w fv (Dp.append D n s)) :=
  (append_any fv D n s w hv (bd_sm3 h (by omega)) (by omega)).mono fun _ _ r => dk_s r hv (bd_sm3 (bd_append h n hs) (by omega))
theorem sync_s (h : Bd D k) (hk : k ≤ 200000) (n : ByteArray) (hv : IsL FL w fv D.f) : Calls Try.prog 30 #[dkVal fv D, .string n] w (DkAns w fv (Dp.sync D n)) :=
  (sync_any fv D n w hv (bd_sm3 h (by omega))).mono fun _ _ r => dk_s r hv (bd_sm3 (bd_sync h n) (by omega))
theorem rename_s (h : Bd D k) (hk : k ≤ 200000) (n m : ByteArray) (hm : m.size ≤ 3000) (hv : IsL FL w fv D.f) : Calls Try.prog 85 #[dkVal fv D, .string n, .string m] w (DkAns w fv (Dp.rename D n m)) :=
  (rename_any fv D n m w hv (bd_sm3 h (by omega)) (by omega)).mono fun _ _ r => dk_s r hv (bd_sm3 (bd_rename h n hm) (by omega))
theorem delete_s (h : Bd D k) (hk : k ≤ 200000) (n : ByteArray) (hv : IsL FL w fv D.f) : Calls Try.prog 71 #[dkVal fv D, .string n] w (DkAns w fv (Dp.delete D n)) :=
  (delete_any fv D n w hv (bd_sm3 h (by omega))).mono fun _ _ r => dk_s r hv (bd_sm3 (bd_delete h n) (by omega))
end
theorem dks_lay {w W W' : World} {fv fv' : Value} {D' : Dp.Dk} (b : Below w.heap.size w W) (k : DkS W fv D' fv' W') {t : Nat} (h1 : w.heap.size ≤ t) (h2 : t < W.heap.size) (hs : Sep fv t) (x y z u q : Value) : DkS w fv D' fv' (set5 W' t x y z u q) :=
  ⟨IsL.set5 k.f (k.s t h2 hs) x y z u q, fun j hj hsj => k.s j (Nat.lt_of_lt_of_le hj b.size) hsj, bel_set5 (b.trans (k.w.mono b.size)) h1 x y z u q⟩

/-- A step: a function value that answers so in any world behind that one. -/
def Stp (N : Nat) (caps : Array Value) (fv : Value) (D : Dp.Dk) (R : Dp.Dk × Int) (w : World) : Prop :=
  (∀ args w, (callFunc N args).run Try.prog w = .ok (.enter N args) w) ∧ ∀ W, Below w.heap.size w W → Calls Try.prog N (#[dkVal fv D] ++ caps) W (DkAns W fv R)
theorem Stp.keep {N : Nat} {caps : Array Value} {fv : Value} {D : Dp.Dk} {R : Dp.Dk × Int} {w W : World} (h : Stp N caps fv D R w) (b : Below w.heap.size w W) : Stp N caps fv D R W := ⟨h.1, fun W' hb => h.2 W' (b.trans (hb.mono b.size))⟩

set_option maxRecDepth 100000 in
theorem created_any (n : ByteArray) (w : World) : Calls Try.prog 13 #[.string n] w fun e w' => e = .returned (.func (.func 33) #[] #[.pointer (some ⟨w.heap.size, 0, none⟩)]) ∧ w' = w.alloc (.cells #[.string n] 9) := by
  have hmf := Dsk.made_func
  go_enter Try.func13, Try.ntmps13
  go_wp2_with fail
  go_ret
  exact ⟨rfl, rfl⟩
set_option maxRecDepth 100000 in
set_option maxHeartbeats 800000 in
theorem created1 (fa : Option Addr) (fn fc : Nat) (D : Dp.Dk) (n : ByteArray) (b : Nat) (R : Dp.Dk × Int) (w : World) (hv : IsL FL w (.slice fa fn fc) D.f) (hb : w.heap[b]? = some (.cells #[.string n] 9 (0, 0)))
    (C : ∀ W, Below w.heap.size w W → Calls Try.prog 34 #[dkVal (.slice fa fn fc) D, .string n] W (DkAns W (.slice fa fn fc) R)) :
    Calls Try.prog 33 #[dkVal (.slice fa fn fc) D, .pointer (some ⟨b, 0, none⟩)] w (DkAns w (.slice fa fn fc) R) := by
  obtain ⟨g0, g1, gb, gs⟩ := boxes2 w #[.slice fa fn fc, .int .i64 D.c, .bool D.a, .int .i64 D.l, .bool D.x] #[.slice none 0 0, .int .i64 0, .bool false, .int .i64 0, .bool false] 27 27
  have HG := Lib.hid g1
  have HB := Lib.hid gb
  have HS := Lib.hid (Array.getElem?_eq_some_iff.1 g1).1
  have SP := Lib.hid (show Sep (.slice fa fn fc) (w.heap.size + 1) from IsL.sep_new hv (by omega))
  have HN := (cells1 (hkeep hb gb)).1
  have HC := Lib.hid C
  unfold dkVal at HC ⊢
  clear hv hb C g0 g1 gb gs
  go_enter Try.func33, Try.ntmps33
  go_wp2_with fail
  generalize World.alloc (World.alloc w _) _ = w0 at HG HB HS HN ⊢
  refine (HC.out _ HB.out).mono ?_
  rintro e w1 ⟨ga, gn, gc, rfl, kk⟩
  obtain ⟨q0, q1, q2, q3, q4⟩ := cells5 (hkeep HG.out kk.w)
  obtain ⟨qf0, qf1, qf2, qf3, qf4⟩ := frozen5 (hkeep HG.out kk.w)
  have LY := Lib.hid (dks_lay HB.out kk (t := w.heap.size + 1) (by omega) HS.out SP.out (.slice ga gn gc) (.int .i64 R.1.c) (.bool R.1.a) (.int .i64 R.1.l) (.bool R.1.x))
  clear kk
  unfold dkVal
  go_wp2_with fail
  refine bodyPost_ret (v := .tuple #[.agg #[.slice ga gn gc, .int .i64 R.1.c, .bool R.1.a, .int .i64 R.1.l, .bool R.1.x], .int .i64 R.2]) (by simp [results, Try.results33, go_sem, q0, q1, q2, q3, q4]) rfl ?_
  exact ⟨_, _, _, rfl, LY.out⟩

set_option maxRecDepth 100000 in
theorem deleted_any (n : ByteArray) (w : World) : Calls Try.prog 65 #[.string n] w fun e w' => e = .returned (.func (.func 82) #[] #[.pointer (some ⟨w.heap.size, 0, none⟩)]) ∧ w' = w.alloc (.cells #[.string n] 9) := by
  have hmf := Dsk.made_func
  go_enter Try.func65, Try.ntmps65
  go_wp2_with fail
  go_ret
  exact ⟨rfl, rfl⟩
set_option maxRecDepth 100000 in
set_option maxHeartbeats 800000 in
theorem deleted1 (fa : Option Addr) (fn fc : Nat) (D : Dp.Dk) (n : ByteArray) (b : Nat) (R : Dp.Dk × Int) (w : World) (hv : IsL FL w (.slice fa fn fc) D.f) (hb : w.heap[b]? = some (.cells #[.string n] 9 (0, 0)))
    (C : ∀ W, Below w.heap.size w W → Calls Try.prog 71 #[dkVal (.slice fa fn fc) D, .string n] W (DkAns W (.slice fa fn fc) R)) :
    Calls Try.prog 82 #[dkVal (.slice fa fn fc) D, .pointer (some ⟨b, 0, none⟩)] w (DkAns w (.slice fa fn fc) R) := by
  obtain ⟨g0, g1, gb, gs⟩ := boxes2 w #[.slice fa fn fc, .int .i64 D.c, .bool D.a, .int .i64 D.l, .bool D.x] #[.slice none 0 0, .int .i64 0, .bool false, .int .i64 0, .bool false] 27 27
  have HG := Lib.hid g1
  have HB := Lib.hid gb
  have HS := Lib.hid (Array.getElem?_eq_some_iff.1 g1).1
  have SP := Lib.hid (show Sep (.slice fa fn fc) (w.heap.size + 1) from IsL.sep_new hv (by omega))
  have HN := (cells1 (hkeep hb gb)).1
  have HC := Lib.hid C
  unfold dkVal at HC ⊢
  clear hv hb C g0 g1 gb gs
  go_enter Try.func82, Try.ntmps82
  go_wp2_with fail
  generalize World.alloc (World.alloc w _) _ = w0 at HG HB HS HN ⊢
  refine (HC.out _ HB.out).mono ?_
  rintro e w1 ⟨ga, gn, gc, rfl, kk⟩
  obtain ⟨q0, q1, q2, q3, q4⟩ := cells5 (hkeep HG.out kk.w)
  obtain ⟨qf0, qf1, qf2, qf3, qf4⟩ := frozen5 (hkeep HG.out kk.w)
  have LY := Lib.hid (dks_lay HB.out kk (t := w.heap.size + 1) (by omega) HS.out SP.out (.slice ga gn gc) (.int .i64 R.1.c) (.bool R.1.a) (.int .i64 R.1.l) (.bool R.1.x))
  clear kk
  unfold dkVal
  go_wp2_with fail
  refine bodyPost_ret (v := .tuple #[.agg #[.slice ga gn gc, .int .i64 R.1.c, .bool R.1.a, .int .i64 R.1.l, .bool R.1.x], .int .i64 R.2]) (by simp [results, Try.results82, go_sem, q0, q1, q2, q3, q4]) rfl ?_
  exact ⟨_, _, _, rfl, LY.out⟩

set_option maxRecDepth 100000 in
theorem synced_any (n : ByteArray) (w : World) : Calls Try.prog 66 #[.string n] w fun e w' => e = .returned (.func (.func 83) #[] #[.pointer (some ⟨w.heap.size, 0, none⟩)]) ∧ w' = w.alloc (.cells #[.string n] 9) := by
  have hmf := Dsk.made_func
  go_enter Try.func66, Try.ntmps66
  go_wp2_with fail
  go_ret
  exact ⟨rfl, rfl⟩
set_option maxRecDepth 100000 in
set_option maxHeartbeats 800000 in
theorem synced1 (fa : Option Addr) (fn fc : Nat) (D : Dp.Dk) (n : ByteArray) (b : Nat) (R : Dp.Dk × Int) (w : World) (hv : IsL FL w (.slice fa fn fc) D.f) (hb : w.heap[b]? = some (.cells #[.string n] 9 (0, 0)))
    (C : ∀ W, Below w.heap.size w W → Calls Try.prog 30 #[dkVal (.slice fa fn fc) D, .string n] W (DkAns W (.slice fa fn fc) R)) :
    Calls Try.prog 83 #[dkVal (.slice fa fn fc) D, .pointer (some ⟨b, 0, none⟩)] w (DkAns w (.slice fa fn fc) R) := by
  obtain ⟨g0, g1, gb, gs⟩ := boxes2 w #[.slice fa fn fc, .int .i64 D.c, .bool D.a, .int .i64 D.l, .bool D.x] #[.slice none 0 0, .int .i64 0, .bool false, .int .i64 0, .bool false] 27 27
  have HG := Lib.hid g1
  have HB := Lib.hid gb
  have HS := Lib.hid (Array.getElem?_eq_some_iff.1 g1).1
  have SP := Lib.hid (show Sep (.slice fa fn fc) (w.heap.size + 1) from IsL.sep_new hv (by omega))
  have HN := (cells1 (hkeep hb gb)).1
  have HC := Lib.hid C
  unfold dkVal at HC ⊢
  clear hv hb C g0 g1 gb gs
  go_enter Try.func83, Try.ntmps83
  go_wp2_with fail
  generalize World.alloc (World.alloc w _) _ = w0 at HG HB HS HN ⊢
  refine (HC.out _ HB.out).mono ?_
  rintro e w1 ⟨ga, gn, gc, rfl, kk⟩
  obtain ⟨q0, q1, q2, q3, q4⟩ := cells5 (hkeep HG.out kk.w)
  obtain ⟨qf0, qf1, qf2, qf3, qf4⟩ := frozen5 (hkeep HG.out kk.w)
  have LY := Lib.hid (dks_lay HB.out kk (t := w.heap.size + 1) (by omega) HS.out SP.out (.slice ga gn gc) (.int .i64 R.1.c) (.bool R.1.a) (.int .i64 R.1.l) (.bool R.1.x))
  clear kk
  unfold dkVal
  go_wp2_with fail
  refine bodyPost_ret (v := .tuple #[.agg #[.slice ga gn gc, .int .i64 R.1.c, .bool R.1.a, .int .i64 R.1.l, .bool R.1.x], .int .i64 R.2]) (by simp [results, Try.results83, go_sem, q0, q1, q2, q3, q4]) rfl ?_
  exact ⟨_, _, _, rfl, LY.out⟩

set_option maxRecDepth 100000 in
theorem appended_any (n s : ByteArray) (w : World) : Calls Try.prog 27 #[.string n, .string s] w fun e w' => e = .returned (.func (.func 50) #[] #[.pointer (some ⟨w.heap.size, 0, none⟩), .pointer (some ⟨w.heap.size + 1, 0, none⟩)]) ∧ w' = (w.alloc (.cells #[.string n] 9)).alloc (.cells #[.string s] 9) := by
  have hmf := Dsk.made_func
  go_enter Try.func27, Try.ntmps27
  go_wp2_with fail
  go_ret
  exact ⟨by simp, rfl⟩
set_option maxRecDepth 100000 in
set_option maxHeartbeats 800000 in
theorem appended1 (fa : Option Addr) (fn fc : Nat) (D : Dp.Dk) (n s : ByteArray) (b b2 : Nat) (R : Dp.Dk × Int) (w : World) (hv : IsL FL w (.slice fa fn fc) D.f) (hb : w.heap[b]? = some (.cells #[.string n] 9 (0, 0))) (hb2 : w.heap[b2]? = some (.cells #[.string s] 9 (0, 0)))
    (C : ∀ W, Below w.heap.size w W → Calls Try.prog 51 #[dkVal (.slice fa fn fc) D, .string n, .string s] W (DkAns W (.slice fa fn fc) R)) :
    Calls Try.prog 50 #[dkVal (.slice fa fn fc) D, .pointer (some ⟨b, 0, none⟩), .pointer (some ⟨b2, 0, none⟩)] w (DkAns w (.slice fa fn fc) R) := by
  obtain ⟨g0, g1, gb, gs⟩ := boxes2 w #[.slice fa fn fc, .int .i64 D.c, .bool D.a, .int .i64 D.l, .bool D.x] #[.slice none 0 0, .int .i64 0, .bool false, .int .i64 0, .bool false] 27 27
  have HG := Lib.hid g1
  have HB := Lib.hid gb
  have HS := Lib.hid (Array.getElem?_eq_some_iff.1 g1).1
  have SP := Lib.hid (show Sep (.slice fa fn fc) (w.heap.size + 1) from IsL.sep_new hv (by omega))
  have HN := (cells1 (hkeep hb gb)).1
  have HN2 := (cells1 (hkeep hb2 gb)).1
  have HC := Lib.hid C
  unfold dkVal at HC ⊢
  clear hv hb hb2 C g0 g1 gb gs
  go_enter Try.func50, Try.ntmps50
  go_wp2_with fail
  generalize World.alloc (World.alloc w _) _ = w0 at HG HB HS HN HN2 ⊢
  refine (HC.out _ HB.out).mono ?_
  rintro e w1 ⟨ga, gn, gc, rfl, kk⟩
  obtain ⟨q0, q1, q2, q3, q4⟩ := cells5 (hkeep HG.out kk.w)
  obtain ⟨qf0, qf1, qf2, qf3, qf4⟩ := frozen5 (hkeep HG.out kk.w)
  have LY := Lib.hid (dks_lay HB.out kk (t := w.heap.size + 1) (by omega) HS.out SP.out (.slice ga gn gc) (.int .i64 R.1.c) (.bool R.1.a) (.int .i64 R.1.l) (.bool R.1.x))
  clear kk
  unfold dkVal
  go_wp2_with fail
  refine bodyPost_ret (v := .tuple #[.agg #[.slice ga gn gc, .int .i64 R.1.c, .bool R.1.a, .int .i64 R.1.l, .bool R.1.x], .int .i64 R.2]) (by simp [results, Try.results50, go_sem, q0, q1, q2, q3, q4]) rfl ?_
  exact ⟨_, _, _, rfl, LY.out⟩

set_option maxRecDepth 100000 in
theorem renamed_any (n s : ByteArray) (w : World) : Calls Try.prog 67 #[.string n, .string s] w fun e w' => e = .returned (.func (.func 84) #[] #[.pointer (some ⟨w.heap.size, 0, none⟩), .pointer (some ⟨w.heap.size + 1, 0, none⟩)]) ∧ w' = (w.alloc (.cells #[.string n] 9)).alloc (.cells #[.string s] 9) := by
  have hmf := Dsk.made_func
  go_enter Try.func67, Try.ntmps67
  go_wp2_with fail
  go_ret
  exact ⟨by simp, rfl⟩
set_option maxRecDepth 100000 in
set_option maxHeartbeats 800000 in
theorem renamed1 (fa : Option Addr) (fn fc : Nat) (D : Dp.Dk) (n s : ByteArray) (b b2 : Nat) (R : Dp.Dk × Int) (w : World) (hv : IsL FL w (.slice fa fn fc) D.f) (hb : w.heap[b]? = some (.cells #[.string n] 9 (0, 0))) (hb2 : w.heap[b2]? = some (.cells #[.string s] 9 (0, 0)))
    (C : ∀ W, Below w.heap.size w W → Calls Try.prog 85 #[dkVal (.slice fa fn fc) D, .string n, .string s] W (DkAns W (.slice fa fn fc) R)) :
    Calls Try.prog 84 #[dkVal (.slice fa fn fc) D, .pointer (some ⟨b, 0, none⟩), .pointer (some ⟨b2, 0, none⟩)] w (DkAns w (.slice fa fn fc) R) := by
  obtain ⟨g0, g1, gb, gs⟩ := boxes2 w #[.slice fa fn fc, .int .i64 D.c, .bool D.a, .int .i64 D.l, .bool D.x] #[.slice none 0 0, .int .i64 0, .bool false, .int .i64 0, .bool false] 27 27
  have HG := Lib.hid g1
  have HB := Lib.hid gb
  have HS := Lib.hid (Array.getElem?_eq_some_iff.1 g1).1
  have SP := Lib.hid (show Sep (.slice fa fn fc) (w.heap.size + 1) from IsL.sep_new hv (by omega))
  have HN := (cells1 (hkeep hb gb)).1
  have HN2 := (cells1 (hkeep hb2 gb)).1
  have HC := Lib.hid C
  unfold dkVal at HC ⊢
  clear hv hb hb2 C g0 g1 gb gs
  go_enter Try.func84, Try.ntmps84
  go_wp2_with fail
  generalize World.alloc (World.alloc w _) _ = w0 at HG HB HS HN HN2 ⊢
  refine (HC.out _ HB.out).mono ?_
  rintro e w1 ⟨ga, gn, gc, rfl, kk⟩
  obtain ⟨q0, q1, q2, q3, q4⟩ := cells5 (hkeep HG.out kk.w)
  obtain ⟨qf0, qf1, qf2, qf3, qf4⟩ := frozen5 (hkeep HG.out kk.w)
  have LY := Lib.hid (dks_lay HB.out kk (t := w.heap.size + 1) (by omega) HS.out SP.out (.slice ga gn gc) (.int .i64 R.1.c) (.bool R.1.a) (.int .i64 R.1.l) (.bool R.1.x))
  clear kk
  unfold dkVal
  go_wp2_with fail
  refine bodyPost_ret (v := .tuple #[.agg #[.slice ga gn gc, .int .i64 R.1.c, .bool R.1.a, .int .i64 R.1.l, .bool R.1.x], .int .i64 R.2]) (by simp [results, Try.results84, go_sem, q0, q1, q2, q3, q4]) rfl ?_
  exact ⟨_, _, _, rfl, LY.out⟩

end Go.Proofs.Ythhhocgpoenigaa.Sto

namespace Go.Proofs.Ythhhocgpoenigaa.Sto
open Go.RowKit Go.Proofs.Ythhhocgpoenigaa.So Go.Proofs.Ythhhocgpoenigaa.Dsk Go.Proofs.Ythhhocgpoenigaa.Rts

set_option maxRecDepth 100000 in
theorem taking_any (p q : Addr) (w : World) : Calls Try.prog 12 #[.pointer (some p), .pointer (some q)] w fun e w' => e = .returned (.func (.func 32) #[] #[.pointer (some ⟨w.heap.size + 1, 0, none⟩), .pointer (some ⟨w.heap.size, 0, none⟩)]) ∧ w' = (w.alloc (.cells #[.pointer (some p)] 52)).alloc (.cells #[.pointer (some q)] 53) := by
  have hmf := Dsk.made_func
  go_enter Try.func12, Try.ntmps12
  go_wp2_with fail
  go_ret
  exact ⟨by simp, rfl⟩
set_option maxRecDepth 100000 in
theorem take1_no (f : Value) (be bd pe : Nat) (E : Int) (hE : E ≠ 0) (w : World) (h1 : w.cell? ⟨be, 0, none⟩ = some (.pointer (some ⟨pe, 0, none⟩))) (h2 : w.cell? ⟨pe, 0, none⟩ = some (.int .i64 E)) :
    Calls Try.prog 32 #[f, .pointer (some ⟨be, 0, none⟩), .pointer (some ⟨bd, 0, none⟩)] w fun e w' => e = .returned (.tuple #[]) ∧ w = w' := by
  have hb := ne_b hE
  clear hE
  go_enter Try.func32, Try.ntmps32
  go_wp2_with fail
  go_end0
  exact ⟨rfl, rfl⟩

/-- A region that draws its order: the beginning, with what holds at every step. -/
theorem region_plain {P : Program} {id : Nat} {ops : Array Oper} {Q : Exit → Act → World → Prop} {a : Act} {w : World} (hm : P.follows .mixedOrders = true) (S : World → Prop) (k : Nat) (hk : ops.size = k) (L : Array Bool) (hL : Array.replicate k false = L)
    (h : wpAnyH P .any ops Q S k L a w.drew) : (Code.region id ops true).wp P Q a w :=
  wp_region_held (S := S) hm (by rw [hk, hL]; exact h)
section
variable {W W' : World} {be bd pe pd : Nat} {x y : Value}
theorem Pq.dr (h : W.cell? ⟨be, 0, none⟩ = some x ∧ W.cell? ⟨bd, 0, none⟩ = some y) : W.drew.cell? ⟨be, 0, none⟩ = some x ∧ W.drew.cell? ⟨bd, 0, none⟩ = some y := h
theorem Pq.keep (h : W.cell? ⟨be, 0, none⟩ = some x ∧ W.cell? ⟨bd, 0, none⟩ = some y) (k : Below W.heap.size W W') : W'.cell? ⟨be, 0, none⟩ = some x ∧ W'.cell? ⟨bd, 0, none⟩ = some y :=
  ⟨(k.cell (p := ⟨be, 0, none⟩) (block_lt_of_cell h.1)).trans h.1, (k.cell (p := ⟨bd, 0, none⟩) (block_lt_of_cell h.2)).trans h.2⟩
theorem Pq.st1 (h : W.cell? ⟨be, 0, none⟩ = some x ∧ W.cell? ⟨bd, 0, none⟩ = some y) {t i : Nat} {v : Value} (h1 : be ≠ t) (h2 : bd ≠ t) : (W.setCell ⟨t, i, none⟩ v).cell? ⟨be, 0, none⟩ = some x ∧ (W.setCell ⟨t, i, none⟩ v).cell? ⟨bd, 0, none⟩ = some y :=
  ⟨by rw [World.cell?_setCell_other _ _ _ _ (fun e => h1 (by injection e with e; exact e.symm))]; exact h.1, by rw [World.cell?_setCell_other _ _ _ _ (fun e => h2 (by injection e with e; exact e.symm))]; exact h.2⟩
theorem Pq.st5 (h : W.cell? ⟨be, 0, none⟩ = some x ∧ W.cell? ⟨bd, 0, none⟩ = some y) {t : Nat} {x0 x1 x2 x3 x4 : Value} (h1 : be ≠ t) (h2 : bd ≠ t) : (((((W.setCell ⟨t, 0, none⟩ x0).setCell ⟨t, 1, none⟩ x1).setCell ⟨t, 2, none⟩ x2).setCell ⟨t, 3, none⟩ x3).setCell ⟨t, 4, none⟩ x4).cell? ⟨be, 0, none⟩ = some x ∧ (((((W.setCell ⟨t, 0, none⟩ x0).setCell ⟨t, 1, none⟩ x1).setCell ⟨t, 2, none⟩ x2).setCell ⟨t, 3, none⟩ x3).setCell ⟨t, 4, none⟩ x4).cell? ⟨bd, 0, none⟩ = some y :=
  Pq.st1 (Pq.st1 (Pq.st1 (Pq.st1 (Pq.st1 h h1 h2) h1 h2) h1 h2) h1 h2) h1 h2
end
set_option maxRecDepth 100000 in
set_option maxHeartbeats 3200000 in
theorem take1_go (N : Nat) (caps : Array Value) (fa : Option Addr) (fn fc : Nat) (D : Dp.Dk) (R : Dp.Dk × Int) (be bd pe pd : Nat) (w : World) (hst : Stp N caps (.slice fa fn fc) D R w)
    (h1 : w.cell? ⟨be, 0, none⟩ = some (.pointer (some ⟨pe, 0, none⟩))) (h2 : w.cell? ⟨bd, 0, none⟩ = some (.pointer (some ⟨pd, 0, none⟩)))
    (he : ∃ T, w.heap[pe]? = some (.cells #[.int .i64 0] T (0, 0))) (hd : ∃ A T, w.heap[pd]? = some (.cells A T (0, 0)) ∧ A[0]? = some (.slice fa fn fc) ∧ A[1]? = some (.int .i64 D.c) ∧ A[2]? = some (.bool D.a) ∧ A[3]? = some (.int .i64 D.l) ∧ A[4]? = some (.bool D.x)) (hne : pd ≠ pe) (hb1 : be ≠ pd) (hb2 : be ≠ pe) (hb3 : bd ≠ pd) (hb4 : bd ≠ pe) :
    Calls Try.prog 32 #[.func (.func N) #[] caps, .pointer (some ⟨be, 0, none⟩), .pointer (some ⟨bd, 0, none⟩)] w fun e w' => e = .returned (.tuple #[]) ∧
      ∃ a n c W1, DkS w (.slice fa fn fc) R.1 (.slice a n c) W1 ∧ w' = (set5 W1 pd (.slice a n c) (.int .i64 R.1.c) (.bool R.1.a) (.int .i64 R.1.l) (.bool R.1.x)).setCell ⟨pe, 0, none⟩ (.int .i64 R.2) := by
  obtain ⟨T, he⟩ := he
  obtain ⟨A, T', hd, a0, a1, a2, a3, a4⟩ := hd
  obtain ⟨c0, c1, c2, c3, c4⟩ : w.cell? ⟨pd, 0, none⟩ = some (.slice fa fn fc) ∧ w.cell? ⟨pd, 1, none⟩ = some (.int .i64 D.c) ∧ w.cell? ⟨pd, 2, none⟩ = some (.bool D.a) ∧ w.cell? ⟨pd, 3, none⟩ = some (.int .i64 D.l) ∧ w.cell? ⟨pd, 4, none⟩ = some (.bool D.x) :=
    ⟨by rw [Lib.cell_of_heap hd]; exact a0, by rw [Lib.cell_of_heap hd]; exact a1, by rw [Lib.cell_of_heap hd]; exact a2, by rw [Lib.cell_of_heap hd]; exact a3, by rw [Lib.cell_of_heap hd]; exact a4⟩
  obtain ⟨e0, f0⟩ := cells1 he
  have A0 := Lib.hid (And.intro a0 (And.intro a1 (And.intro a2 (And.intro a3 a4))))
  have HD := Lib.hid hd
  have HE := Lib.hid he
  have hen := hst.1
  have HC := Lib.hid hst.2
  unfold dkVal at HC
  clear hd he hst a0 a1 a2 a3 a4
  go_enter Try.func32, Try.ntmps32
  go_upto_region 1 with (fail)
  have CL := Lib.hid fun (w1 : World) (kw : Below w.heap.size w w1) => (show (w1.cell? ⟨pd, 0, none⟩ = some (.slice fa fn fc) ∧ w1.cell? ⟨pd, 1, none⟩ = some (.int .i64 D.c) ∧ w1.cell? ⟨pd, 2, none⟩ = some (.bool D.a) ∧ w1.cell? ⟨pd, 3, none⟩ = some (.int .i64 D.l) ∧ w1.cell? ⟨pd, 4, none⟩ = some (.bool D.x)) ∧ (w1.frozen? ⟨pd, 0, none⟩ = false ∧ w1.frozen? ⟨pd, 1, none⟩ = false ∧ w1.frozen? ⟨pd, 2, none⟩ = false ∧ w1.frozen? ⟨pd, 3, none⟩ = false ∧ w1.frozen? ⟨pd, 4, none⟩ = false) ∧ w1.cell? ⟨pe, 0, none⟩ = some (.int .i64 0) ∧ w1.frozen? ⟨pe, 0, none⟩ = false from by
    have hd1 := hkeep HD.out kw
    have he1 := cells1 (hkeep HE.out kw)
    exact ⟨⟨by rw [Lib.cell_of_heap hd1]; exact A0.out.1, by rw [Lib.cell_of_heap hd1]; exact A0.out.2.1, by rw [Lib.cell_of_heap hd1]; exact A0.out.2.2.1, by rw [Lib.cell_of_heap hd1]; exact A0.out.2.2.2.1, by rw [Lib.cell_of_heap hd1]; exact A0.out.2.2.2.2⟩,
      ⟨Lib.frozen_of_heap hd1 0, Lib.frozen_of_heap hd1 1, Lib.frozen_of_heap hd1 2, Lib.frozen_of_heap hd1 3, Lib.frozen_of_heap hd1 4⟩, he1.1, he1.2⟩)
  have H1 := Lib.hid h1
  have H2 := Lib.hid h2
  have HNE := Lib.hid hne
  have P2 := Lib.hid fun (W : World) (x0 x1 x2 x3 x4 : Value) (h : W.cell? ⟨pe, 0, none⟩ = some (.int .i64 0)) (h' : W.frozen? ⟨pe, 0, none⟩ = false) => (show (((((W.setCell ⟨pd, 0, none⟩ x0).setCell ⟨pd, 1, none⟩ x1).setCell ⟨pd, 2, none⟩ x2).setCell ⟨pd, 3, none⟩ x3).setCell ⟨pd, 4, none⟩ x4).cell? ⟨pe, 0, none⟩ = some (.int .i64 0) ∧ (((((W.setCell ⟨pd, 0, none⟩ x0).setCell ⟨pd, 1, none⟩ x1).setCell ⟨pd, 2, none⟩ x2).setCell ⟨pd, 3, none⟩ x3).setCell ⟨pd, 4, none⟩ x4).frozen? ⟨pe, 0, none⟩ = false from
    ⟨(Pq.st5 ⟨h, h⟩ hne.symm hne.symm).1, by simpa using h'⟩)
  have HBN := Lib.hid (And.intro hb1 (And.intro hb3 (And.intro hb2 hb4)))
  clear hne hb1 hb2 hb3 hb4
  have h0 : (fun W : World => W.cell? ⟨be, 0, none⟩ = some (.pointer (some ⟨pe, 0, none⟩)) ∧ W.cell? ⟨bd, 0, none⟩ = some (.pointer (some ⟨pd, 0, none⟩))) w.drew := ⟨H1.out, H2.out⟩
  refine region_plain (by kernel_rfl) (fun W : World => W.cell? ⟨be, 0, none⟩ = some (.pointer (some ⟨pe, 0, none⟩)) ∧ W.cell? ⟨bd, 0, none⟩ = some (.pointer (some ⟨pd, 0, none⟩))) 14 rfl #[false, false, false, false, false, false, false, false, false, false, false, false, false, false] rfl ?_
  refine wpAnyH_take (i := 0) (v := .pointer (some ⟨pd, 0, none⟩)) rfl (by kernel_rfl) (by kernel_rfl) (by kernel_rfl) (fun _ _ _ h => h) (Or.inl ⟨by rfl, fun W' hS => ?_⟩) h0 ?_
  · have c := hS.2; go_simp
  simp only [Act.put, List.setIfInBounds_toArray, List.set_cons_zero]
  refine wpAnyH_take (i := 1) (v := .pointer (some ⟨pe, 0, none⟩)) rfl (by kernel_rfl) (by kernel_rfl) (by kernel_rfl) (fun _ _ _ h => h) (Or.inl ⟨by rfl, fun W' hS => ?_⟩) h0 ?_
  · have c := hS.1; go_simp
  simp only [Act.put, List.setIfInBounds_toArray, List.set_cons_zero, List.set_cons_succ]
  refine wpAnyH_take (i := 2) (v := .func (.func N) #[] caps) rfl (by kernel_rfl) (by kernel_rfl) (by kernel_rfl) (fun _ _ _ h => h) (Or.inl ⟨by rfl, fun W' hS => ?_⟩) h0 ?_
  · go_simp
  simp only [Act.put, List.setIfInBounds_toArray, List.set_cons_zero, List.set_cons_succ]
  refine wpAnyH_take (i := 3) (v := .pointer (some ⟨pd, 0, none⟩)) rfl (by kernel_rfl) (by kernel_rfl) (by kernel_rfl) (fun _ _ _ h => h) (Or.inl ⟨by rfl, fun W' hS => ?_⟩) h0 ?_
  · have c := hS.2; go_simp
  simp only [Act.put, List.setIfInBounds_toArray, List.set_cons_zero, List.set_cons_succ]
  refine wpAnyH_take (i := 4) (v := .pointer (some ⟨pd, 0, none⟩)) rfl (by kernel_rfl) (by kernel_rfl) (by kernel_rfl) (fun _ _ _ h => h) (Or.inl ⟨by rfl, fun W' hS => ?_⟩) h0 ?_
  · go_simp
  simp only [Act.put, List.setIfInBounds_toArray, List.set_cons_zero, List.set_cons_succ]
  refine wpAnyH_ready (rs := [5]) (by kernel_rfl) (by simp) (AllReadyH.cons rfl (fun K hK => ?_) AllReadyH.nil)
  go_simp
  refine (Lib.hid hK).out _ _ h0 (fun _ => ?_)
  clear hK K
  simp only [List.setIfInBounds_toArray, List.set_cons_zero, List.set_cons_succ]
  refine wpAnyH_ready (rs := [6]) (by kernel_rfl) (by simp) (AllReadyH.cons rfl (fun K hK => ?_) AllReadyH.nil)
  replace hK := Lib.hid hK
  go_simp
  refine (HC.out _ (by first | exact Below.refl _ _ | exact (Below.refl _ _).drew)).mono ?_
  rintro e w1 ⟨ga, gn, gc, rfl, kk⟩
  have kw : Below w.heap.size w w1 := (by first | exact kk.w | exact (Below.refl _ _).drew.trans kk.w)
  have KK : Hid (DkS w (.slice fa fn fc) R.1 (.slice ga gn gc) w1) := Lib.hid ⟨kk.f, kk.s, kw⟩
  have s5 := Pq.keep ⟨H1.out, H2.out⟩ kw
  obtain ⟨⟨r0, r1, r2, r3, r4⟩, ⟨t0, t1, t2, t3, t4⟩, r5, t5⟩ := CL.out w1 kw
  clear kk kw c0 c1 c2 c3 c4 e0 f0 h1 h2 h0
  dsimp only
  refine hK.out _ _ s5 (fun _ => ?_)
  clear hK K
  unfold dkVal
  simp only [List.setIfInBounds_toArray, List.set_cons_zero, List.set_cons_succ]
  refine wpAnyH_take (i := 7) (v := .tuple #[.agg #[.slice ga gn gc, .int .i64 R.1.c, .bool R.1.a, .int .i64 R.1.l, .bool R.1.x], .int .i64 R.2]) rfl (by kernel_rfl) (by kernel_rfl) (by kernel_rfl) (fun _ _ _ h => h) (Or.inl ⟨by rfl, fun W' hS => ?_⟩) s5 ?_
  · go_simp
  simp only [Act.put, List.setIfInBounds_toArray, List.set_cons_zero, List.set_cons_succ]
  refine wpAnyH_take (i := 8) (v := .agg #[.slice ga gn gc, .int .i64 R.1.c, .bool R.1.a, .int .i64 R.1.l, .bool R.1.x]) rfl (by kernel_rfl) (by kernel_rfl) (by kernel_rfl) (fun _ _ _ h => h) (Or.inl ⟨by rfl, fun W' hS => ?_⟩) s5 ?_
  · go_simp
  simp only [Act.put, List.setIfInBounds_toArray, List.set_cons_zero, List.set_cons_succ]
  refine wpAnyH_take (i := 9) (v := .int .i64 R.2) rfl (by kernel_rfl) (by kernel_rfl) (by kernel_rfl) (fun _ _ _ h => h) (Or.inl ⟨by rfl, fun W' hS => ?_⟩) s5 ?_
  · go_simp
  simp only [Act.put, List.setIfInBounds_toArray, List.set_cons_zero, List.set_cons_succ]
  refine wpAnyH_take (i := 10) (v := .pointer (some ⟨pd, 0, none⟩)) rfl (by kernel_rfl) (by kernel_rfl) (by kernel_rfl) (fun _ _ _ h => h) (Or.inl ⟨by rfl, fun W' hS => ?_⟩) s5 ?_
  · go_simp
  simp only [Act.put, List.setIfInBounds_toArray, List.set_cons_zero, List.set_cons_succ]
  refine wpAnyH_ready (rs := [11]) (by kernel_rfl) (by simp) (AllReadyH.cons rfl (fun K hK => ?_) AllReadyH.nil)
  replace hK := Lib.hid hK
  go_simp
  have s6 := Pq.st5 s5 (x0 := .slice ga gn gc) (x1 := .int .i64 R.1.c) (x2 := .bool R.1.a) (x3 := .int .i64 R.1.l) (x4 := .bool R.1.x) HBN.out.1 HBN.out.2.1
  obtain ⟨r6, t6⟩ := P2.out w1 (.slice ga gn gc) (.int .i64 R.1.c) (.bool R.1.a) (.int .i64 R.1.l) (.bool R.1.x) r5 t5
  refine hK.out _ _ s6 (fun _ => ?_)
  clear hK K
  obtain ⟨Z, hZ⟩ : ∃ Z, ((((w1.setCell ⟨pd, 0, none⟩ (.slice ga gn gc)).setCell ⟨pd, 1, none⟩ (.int .i64 R.1.c)).setCell ⟨pd, 2, none⟩ (.bool R.1.a)).setCell ⟨pd, 3, none⟩ (.int .i64 R.1.l)).setCell ⟨pd, 4, none⟩ (.bool R.1.x) = Z := ⟨_, rfl⟩
  rw [hZ] at s6 r6 t6 ⊢
  have HZ := Lib.hid hZ
  have s7 := Pq.st1 s6 (i := 0) (v := .int .i64 R.2) HBN.out.2.2.1 HBN.out.2.2.2
  clear hZ r0 r1 r2 r3 r4 t0 t1 t2 t3 t4 r5 t5
  refine wpAnyH_take (i := 12) (v := .pointer (some ⟨pe, 0, none⟩)) rfl (by kernel_rfl) (by kernel_rfl) (by kernel_rfl) (fun _ _ _ h => h) (Or.inl ⟨by rfl, fun W' hS => ?_⟩) s6 ?_
  · go_simp
  simp only [Act.put, List.setIfInBounds_toArray, List.set_cons_zero, List.set_cons_succ]
  refine wpAnyH_ready (rs := [13]) (by kernel_rfl) (by simp) (AllReadyH.cons rfl (fun K hK => ?_) AllReadyH.nil)
  replace hK := Lib.hid hK
  go_simp
  refine hK.out _ _ s7 (fun _ => ?_)
  clear hK K
  refine wpAnyH_done (by kernel_rfl) ?_ _
  clear r6 t6 s5 s6 s7
  go_wp2_with fail
  go_end0
  exact ⟨rfl, _, _, _, w1, KK.out, by rw [← HZ.out]; rfl⟩

end Go.Proofs.Ythhhocgpoenigaa.Sto

namespace Go.Proofs.Ythhhocgpoenigaa.Sto
open Go.RowKit Go.Proofs.Ythhhocgpoenigaa.So Go.Proofs.Ythhhocgpoenigaa.Dsk Go.Proofs.Ythhhocgpoenigaa.Rts

theorem Ms.start {w : World} {fv gv : Value} {lf : List Dp.Fl} {lg : List Rt.Sg} (hf : IsL FL w fv lf) (hg : IsL SL w gv lg) : Ms w w.heap.size fv gv [] [(fv, lf)] [(gv, lg)] w :=
  ⟨fun p hp => absurd hp List.not_mem_nil, fun p hp => (by
    rw [List.mem_singleton] at hp; subst hp
    exact ⟨hf, fun q hq => absurd hq List.not_mem_nil, fun _ _ h _ => h⟩), fun p hp => (by
    rw [List.mem_singleton] at hp; subst hp
    exact ⟨hg, fun q hq => absurd hq List.not_mem_nil, fun _ _ _ h => h⟩), Nat.le_refl _, Below.refl _ _⟩
theorem Ms.dks {w W : World} {fv0 : Value} {cs : List (Nat × Obj)} {fs : List (Value × List Dp.Fl)} {gs : List (Value × List Rt.Sg)} {a : Option Addr} {v : Value} {D : Dp.Dk} (h : Ms w w.heap.size fv0 (.slice a 0 0) cs fs gs W) (hm : (v, D.f) ∈ fs) : DkS w fv0 D v W :=
  ⟨h.fl hm, fun j hj hs => (h.f _ hm).2.2 j hj hs (Sep.nil j 0 a), h.w⟩

/-- How a disk's cells lie in a variable. -/
structure Form (A : Value → Dp.Dk → Array Value) : Prop where
  get : ∀ v D, (A v D)[0]? = some v ∧ (A v D)[1]? = some (.int .i64 D.c) ∧ (A v D)[2]? = some (.bool D.a) ∧ (A v D)[3]? = some (.int .i64 D.l) ∧ (A v D)[4]? = some (.bool D.x)
  set : ∀ v D v' D', (((((A v D).setIfInBounds 0 v').setIfInBounds 1 (.int .i64 D'.c)).setIfInBounds 2 (.bool D'.a)).setIfInBounds 3 (.int .i64 D'.l)).setIfInBounds 4 (.bool D'.x) = A v' D'
/-- A disk's variable of its own; a store's. -/
def form5 (v : Value) (D : Dp.Dk) : Array Value := #[v, .int .i64 D.c, .bool D.a, .int .i64 D.l, .bool D.x]
def form11 (gv : Value) (S : St) (v : Value) (D : Dp.Dk) : Array Value := #[v, .int .i64 D.c, .bool D.a, .int .i64 D.l, .bool D.x, .int .i64 S.v, gv, .int .i64 S.x, .int .i64 S.s, .int .i64 S.z, .int .u32 S.c]
theorem form5_is : Form form5 := ⟨fun _ _ => ⟨rfl, rfl, rfl, rfl, rfl⟩, fun _ _ _ _ => rfl⟩
theorem form11_is (gv : Value) (S : St) : Form (form11 gv S) := ⟨fun _ _ => ⟨rfl, rfl, rfl, rfl, rfl⟩, fun _ _ _ _ => rfl⟩

/-- The boxes of a disk's variable, an error's, and of what points at them; others beside. -/
structure Tk (w : World) (b : Nat) (fv0 gv0 : Value) (t e d : Nat) (A : Value → Dp.Dk → Array Value) (T : TypeId) (xs : List (Nat × Obj)) (gs : List (Value × List Rt.Sg)) (v : Value) (X : Dp.Dk × Int) (W : World) : Prop where
  m : Ms w b fv0 gv0 ((t, .cells (A v X.1) T) :: (e, .cells #[.int .i64 X.2] 32) :: (d, .cells #[.pointer (some ⟨t, 0, none⟩)] 52) :: (d + 1, .cells #[.pointer (some ⟨e, 0, none⟩)] 53) :: xs) [(v, X.1.f)] gs W
  n1 : t ≠ e
  n2 : t < d ∧ e < d
  n3 : ∀ p ∈ xs, p.1 ≠ t ∧ p.1 ≠ e
section
variable {w W W' : World} {b t e d : Nat} {fv0 gv0 v : Value} {A : Value → Dp.Dk → Array Value} {T : TypeId} {xs : List (Nat × Obj)} {gs : List (Value × List Rt.Sg)} {X : Dp.Dk × Int}
theorem Tk.keep (h : Tk w b fv0 gv0 t e d A T xs gs v X W) (k : Below W.heap.size W W') : Tk w b fv0 gv0 t e d A T xs gs v X W' := ⟨h.m.keep k, h.n1, h.n2, h.n3⟩
theorem Tk.al (h : Tk w b fv0 gv0 t e d A T xs gs v X W) (o : Obj) : Tk w b fv0 gv0 t e d A T xs gs v X (W.alloc o) := h.keep ((Below.refl _ _).alloc (Nat.le_refl _) _)
theorem Tk.al2 (h : Tk w b fv0 gv0 t e d A T xs gs v X W) (o o' : Obj) : Tk w b fv0 gv0 t e d A T xs gs v X ((W.alloc o).alloc o') := (h.al o).al o'
theorem Tk.hd (h : Tk w b fv0 gv0 t e d A T xs gs v X W) : W.heap[t]? = some (.cells (A v X.1) T) := h.m.at_ List.mem_cons_self
theorem Tk.he (h : Tk w b fv0 gv0 t e d A T xs gs v X W) : W.heap[e]? = some (.cells #[.int .i64 X.2] 32) := h.m.at_ (List.mem_cons_of_mem _ List.mem_cons_self)
theorem Tk.fl (h : Tk w b fv0 gv0 t e d A T xs gs v X W) : IsL FL W v X.1.f := h.m.fl List.mem_cons_self
theorem Tk.hx (h : Tk w b fv0 gv0 t e d A T xs gs v X W) {i : Nat} {o : Obj} (hm : (i, o) ∈ xs) : W.heap[i]? = some o := h.m.at_ (List.mem_cons_of_mem _ (List.mem_cons_of_mem _ (List.mem_cons_of_mem _ (List.mem_cons_of_mem _ hm))))
/-- The beginning: what points at the two is made. -/
theorem Tk.new (h : Ms w b fv0 gv0 ((t, .cells (A v X.1) T) :: (e, .cells #[.int .i64 X.2] 32) :: xs) [(v, X.1.f)] gs W) (n1 : t ≠ e) (n3 : ∀ p ∈ xs, p.1 ≠ t ∧ p.1 ≠ e) :
    Tk w b fv0 gv0 t e W.heap.size A T xs gs v X ((W.alloc (.cells #[.pointer (some ⟨t, 0, none⟩)] 52)).alloc (.cells #[.pointer (some ⟨e, 0, none⟩)] 53)) := by
  have M := (h.alloc #[.pointer (some ⟨t, 0, none⟩)] 52).alloc #[.pointer (some ⟨e, 0, none⟩)] 53
  rw [World.size_alloc] at M
  have l1 : t < W.heap.size := h.lt List.mem_cons_self
  have l2 : e < W.heap.size := h.lt (List.mem_cons_of_mem _ List.mem_cons_self)
  refine ⟨M.sub (fun p hp => ?_) (fun _ hp => hp) (fun _ hp => hp), n1, ⟨l1, l2⟩, n3⟩
  simp only [List.mem_cons] at hp ⊢
  rcases hp with hp | hp | hp | hp | hp
  · exact .inr (.inr (.inl hp))
  · exact .inr (.inr (.inr (.inl hp)))
  · exact .inr (.inl hp)
  · exact .inl hp
  · exact .inr (.inr (.inr (.inr hp)))
/-- A step is taken, or passed over. -/
theorem Tk.take {a : Option Addr} {n c : Nat} (hF : Form A) (h : Tk w b fv0 gv0 t e d A T xs gs (.slice a n c) X W) {N : Nat} {caps : Array Value} {R : Dp.Dk × Int} (hst : Stp N caps (.slice a n c) X.1 R W) :
    Calls Try.prog 32 #[.func (.func N) #[] caps, .pointer (some ⟨d + 1, 0, none⟩), .pointer (some ⟨d, 0, none⟩)] W fun en W' => en = .returned (.tuple #[]) ∧ ∃ a' n' c', Tk w b fv0 gv0 t e d A T xs gs (.slice a' n' c') (tk X R) W' := by
  obtain ⟨D, E⟩ := X
  have g0 := h.hd
  have g1 := h.he
  have g2 : W.heap[d]? = some (.cells #[.pointer (some ⟨t, 0, none⟩)] 52) := h.m.at_ (List.mem_cons_of_mem _ (List.mem_cons_of_mem _ List.mem_cons_self))
  have g3 : W.heap[d + 1]? = some (.cells #[.pointer (some ⟨e, 0, none⟩)] 53) := h.m.at_ (List.mem_cons_of_mem _ (List.mem_cons_of_mem _ (List.mem_cons_of_mem _ List.mem_cons_self)))
  have n2 := h.n2
  by_cases hE : E = 0
  · subst hE
    rw [tk_go]
    have hA := hF.get (.slice a n c) D
    refine (take1_go N caps a n c D R (d + 1) d e t W hst (cells1 g3).1 (cells1 g2).1 ⟨_, g1⟩ ⟨_, _, g0, hA⟩ h.n1 (by omega) (by omega) (by omega) (by omega)).mono ?_
    rintro en W' ⟨rfl, a', n', c', W1, k, rfl⟩
    refine ⟨rfl, a', n', c', ?_⟩
    have M1 := h.m.call (D' := R.1) List.mem_cons_self k
    have s0 : (set5 W1 t (.slice a' n' c') (.int .i64 R.1.c) (.bool R.1.a) (.int .i64 R.1.l) (.bool R.1.x)).heap[t]? = some (.cells (A (.slice a' n' c') R.1) T (0, 0)) := by
      rw [← hF.set (.slice a n c) D]
      exact heap_setCell_same _ _ 4 _ _ _ (heap_setCell_same _ _ 3 _ _ _ (heap_setCell_same _ _ 2 _ _ _ (heap_setCell_same _ _ 1 _ _ _ (heap_setCell_same _ _ 0 _ _ _ (hkeep g0 k.w)))))
    have M2 := M1.write (cs' := (t, .cells (A (.slice a' n' c') R.1) T) :: (e, .cells #[.int .i64 0] 32) :: (d, .cells #[.pointer (some ⟨t, 0, none⟩)] 52) :: (d + 1, .cells #[.pointer (some ⟨e, 0, none⟩)] 53) :: xs) List.mem_cons_self (grown5 W1 t _ _ _ _ _) s0 (fun p hp => by
      simp only [List.mem_cons] at hp ⊢
      rcases hp with rfl | rfl | rfl | rfl | hp
      · exact .inl rfl
      · exact .inr ⟨.inr (.inl rfl), h.n1.symm⟩
      · exact .inr ⟨.inr (.inr (.inl rfl)), by show d ≠ t; omega⟩
      · exact .inr ⟨.inr (.inr (.inr (.inl rfl))), by show d + 1 ≠ t; omega⟩
      · exact .inr ⟨.inr (.inr (.inr (.inr hp))), (h.n3 p hp).1⟩)
    obtain ⟨Z, hZ, M3⟩ := M2.lay1 (cs' := (t, .cells (A (.slice a' n' c') R.1) T) :: (e, .cells #[.int .i64 R.2] 32) :: (d, .cells #[.pointer (some ⟨t, 0, none⟩)] 52) :: (d + 1, .cells #[.pointer (some ⟨e, 0, none⟩)] 53) :: xs) (List.mem_cons_of_mem _ List.mem_cons_self) 0 (.int .i64 R.2) (fun p hp => by
      simp only [List.mem_cons] at hp ⊢
      rcases hp with rfl | rfl | rfl | rfl | hp
      · exact .inr ⟨.inl rfl, h.n1⟩
      · exact .inl rfl
      · exact .inr ⟨.inr (.inr (.inl rfl)), by show d ≠ e; omega⟩
      · exact .inr ⟨.inr (.inr (.inr (.inl rfl))), by show d + 1 ≠ e; omega⟩
      · exact .inr ⟨.inr (.inr (.inr (.inr hp))), (h.n3 p hp).2⟩)
    rw [← hZ] at M3
    exact ⟨M3.sub (fun _ hp => hp) (fun p hp => by rw [List.mem_singleton] at hp; rw [hp]; exact List.mem_cons_self) (fun _ hp => hp), h.n1, h.n2, h.n3⟩
  · rw [tk_no (show ((D, E) : Dp.Dk × Int).2 ≠ 0 from hE)]
    refine (take1_no _ (d + 1) d e E hE W (cells1 g3).1 (cells1 g1).1).mono ?_
    rintro en W' ⟨rfl, rfl⟩
    exact ⟨rfl, _, _, _, h⟩
end

section
variable {fa : Option Addr} {fn fc : Nat} {D : Dp.Dk} {k : Nat} {W : World}
theorem stp_of {N : Nat} {caps : Array Value} {fv : Value} {R : Dp.Dk × Int} (en : ∀ args w, (callFunc N args).run Try.prog w = .ok (.enter N args) w) (h : ∀ W', Below W.heap.size W W' → Calls Try.prog N (#[dkVal fv D] ++ caps) W' (DkAns W' fv R)) : Stp N caps fv D R W := ⟨en, h⟩
theorem al_at (W : World) (A : Array Value) (T : TypeId) : (W.alloc (.cells A T)).heap[W.heap.size]? = some (.cells A T (0, 0)) := heap_alloc_new W _
theorem al_bel (W : World) (o : Obj) : Below W.heap.size W (W.alloc o) := (Below.refl _ _).alloc (Nat.le_refl _) _
theorem stp_created (h : Bd D k) (hk : k ≤ 200000) (n : ByteArray) (hn : n.size ≤ 3000) (hv : IsL FL W (.slice fa fn fc) D.f) : Stp 33 #[.pointer (some ⟨W.heap.size, 0, none⟩)] (.slice fa fn fc) D (Dp.create D n) (W.alloc (.cells #[.string n] 9)) :=
  stp_of (enters Try.func33 (by kernel_rfl) (by rfl)) fun W' b => created1 fa fn fc D n W.heap.size _ W' ((hv.keep (al_bel W _)).keep b) (hkeep (al_at W _ _) b) fun W'' b' => create_s h hk n hn (((hv.keep (al_bel W _)).keep b).keep b')
theorem stp_deleted (h : Bd D k) (hk : k ≤ 200000) (n : ByteArray) (hv : IsL FL W (.slice fa fn fc) D.f) : Stp 82 #[.pointer (some ⟨W.heap.size, 0, none⟩)] (.slice fa fn fc) D (Dp.delete D n) (W.alloc (.cells #[.string n] 9)) :=
  stp_of (enters Try.func82 (by kernel_rfl) (by rfl)) fun W' b => deleted1 fa fn fc D n W.heap.size _ W' ((hv.keep (al_bel W _)).keep b) (hkeep (al_at W _ _) b) fun W'' b' => delete_s h hk n (((hv.keep (al_bel W _)).keep b).keep b')
theorem stp_synced (h : Bd D k) (hk : k ≤ 200000) (n : ByteArray) (hv : IsL FL W (.slice fa fn fc) D.f) : Stp 83 #[.pointer (some ⟨W.heap.size, 0, none⟩)] (.slice fa fn fc) D (Dp.sync D n) (W.alloc (.cells #[.string n] 9)) :=
  stp_of (enters Try.func83 (by kernel_rfl) (by rfl)) fun W' b => synced1 fa fn fc D n W.heap.size _ W' ((hv.keep (al_bel W _)).keep b) (hkeep (al_at W _ _) b) fun W'' b' => sync_s h hk n (((hv.keep (al_bel W _)).keep b).keep b')
theorem al_bel2 (W : World) (o o' : Obj) : Below W.heap.size W ((W.alloc o).alloc o') := (al_bel W o).alloc (al_bel W o).size _
theorem al_at2 (W : World) (A : Array Value) (T : TypeId) (o : Obj) : ((W.alloc (.cells A T)).alloc o).heap[W.heap.size]? = some (.cells A T (0, 0)) := halloc (heap_alloc_new W _)
theorem al_at3 (W : World) (A : Array Value) (T : TypeId) (o : Obj) : ((W.alloc o).alloc (.cells A T)).heap[W.heap.size + 1]? = some (.cells A T (0, 0)) := by
  have := heap_alloc_new (W.alloc o) (.cells A T)
  rwa [World.size_alloc] at this
theorem stp_appended (h : Bd D k) (hk : k ≤ 200000) (n s : ByteArray) (hs : s.size ≤ 3000) (hv : IsL FL W (.slice fa fn fc) D.f) : Stp 50 #[.pointer (some ⟨W.heap.size, 0, none⟩), .pointer (some ⟨W.heap.size + 1, 0, none⟩)] (.slice fa fn fc) D (Dp.append D n s) ((W.alloc (.cells #[.string n] 9)).alloc (.cells #[.string s] 9)) :=
  stp_of (enters Try.func50 (by kernel_rfl) (by rfl)) fun W' b => appended1 fa fn fc D n s W.heap.size (W.heap.size + 1) _ W' ((hv.keep (al_bel2 W _ _)).keep b) (hkeep (al_at2 W _ _ _) b) (hkeep (al_at3 W _ _ _) b) fun W'' b' => append_s h hk n s hs (((hv.keep (al_bel2 W _ _)).keep b).keep b')
theorem stp_renamed (h : Bd D k) (hk : k ≤ 200000) (n s : ByteArray) (hs : s.size ≤ 3000) (hv : IsL FL W (.slice fa fn fc) D.f) : Stp 84 #[.pointer (some ⟨W.heap.size, 0, none⟩), .pointer (some ⟨W.heap.size + 1, 0, none⟩)] (.slice fa fn fc) D (Dp.rename D n s) ((W.alloc (.cells #[.string n] 9)).alloc (.cells #[.string s] 9)) :=
  stp_of (enters Try.func84 (by kernel_rfl) (by rfl)) fun W' b => renamed1 fa fn fc D n s W.heap.size (W.heap.size + 1) _ W' ((hv.keep (al_bel2 W _ _)).keep b) (hkeep (al_at2 W _ _ _) b) (hkeep (al_at3 W _ _ _) b) fun W'' b' => rename_s h hk n s hs (((hv.keep (al_bel2 W _ _)).keep b).keep b')
theorem bd_tk {X R : Dp.Dk × Int} {k : Nat} (h : Bd X.1 k) (hR : Bd R.1 (k + 1)) : Bd (tk X R).1 (k + 1) := by
  unfold tk
  split
  · exact hR
  · exact h.mono (Nat.le_succ k)
end

end Go.Proofs.Ythhhocgpoenigaa.Sto
