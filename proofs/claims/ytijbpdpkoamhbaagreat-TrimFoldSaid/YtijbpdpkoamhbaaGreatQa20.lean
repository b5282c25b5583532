/-
  Parts of what the laws of this seat stand on: StoTk, StoClo, StoTake.
-/
import Derived.Test.YtijbpdpkoamhbaaGreatQa1
import Derived.Deep.RegionHeld3
import Derived.Test.YtijbpdpkoamhbaaGreatQa15
import Derived.Test.YtijbpdpkoamhbaaGreatQa19
import Derived.Test.YtijbpdpkoamhbaaGreatQa5
import Derived.Test.YtijbpdpkoamhbaaGreatQa9
set_option maxRecDepth 100000
set_option maxHeartbeats 6400000
namespace Go.Proofs.YtijbpdpkoamhbaaGreat
namespace So
open Dp
def tk (X R : Dk × Int) : Dk × Int := if X.2 = 0 then R else X
theorem tk_go (D : Dk) (R : Dk × Int) : tk (D, 0) R = R := if_pos rfl
theorem z0 : ¬ ((0 : Int) ≠ 0) := fun h => h rfl
theorem tk_no {X R : Dk × Int} (h : X.2 ≠ 0) : tk X R = X := if_neg h
theorem change_nine {D : Dk} {l : List Fl} {own : Int} (h : own ≠ 9) : (change D l own).2 ≠ 9 := by
 unfold change
 split
 · exact fun e => by cases e
 split
 · exact h
 split
 · exact fun e => by cases e
 · split <;> exact fun e => by cases e
theorem create_nine (D : Dk) (n : ByteArray) : (create D n).2 ≠ 9 := by
 unfold create
 split
 · exact change_nine (by decide)
 · split
   · exact change_nine (by decide)
   · exact change_nine (by decide)
theorem delete_nine (D : Dk) (n : ByteArray) : (delete D n).2 ≠ 9 := by
 unfold delete
 split <;> exact change_nine (by decide)
theorem sync_nine (D : Dk) (n : ByteArray) : (sync D n).2 ≠ 9 := by
 unfold sync
 split <;> exact change_nine (by decide)
def wo (D : Dk) (n : ByteArray) : Dk × Int := ((delete D n).1, if (delete D n).2 = 0 then 9 else (delete D n).2)
noncomputable def swapX (s : ByteArray) (X1 : Dk × Int) : Dk × Int :=
 let X2 := tk X1 (create X1.1 nn)
 let X3 := tk X2 (Dp.append X2.1 nn s)
 if X3.2 = 9 then wo X3.1 nn else
 let X4 := tk X3 (sync X3.1 nn)
 tk X4 (rename X4.1 nn nm)
theorem swapX_no {s : ByteArray} {X : Dk × Int} (h : X.2 ≠ 0) (h9 : X.2 ≠ 9) : swapX s X = X := by
 unfold swapX
 dsimp only
 rw [tk_no h, tk_no h, if_neg h9, tk_no h, tk_no h]
theorem swapX_go (C : Dk) (s : ByteArray) : swapX s (C, 0) = swapS C s := by
 unfold swapX swapS
 dsimp only
 rw [tk_go]
 have h9 := create_nine C nn
 obtain ⟨⟨D1, E1⟩, hC⟩ : ∃ R, create C nn = R := ⟨_, rfl⟩
 rw [hC] at h9 ⊢
 by_cases h1 : E1 = 0
 · subst h1
   try dsimp only
   rw [if_neg z0, tk_go]
   by_cases h2 : (Dp.append D1 nn s).2 = 9
   · rw [if_pos h2, if_pos h2]; rfl
   · rw [if_neg h2, if_neg h2]
     obtain ⟨⟨D2, E2⟩, hA⟩ : ∃ R, Dp.append D1 nn s = R := ⟨_, rfl⟩
     rw [hA]
     by_cases h3 : E2 = 0
     · subst h3
       try dsimp only
       rw [if_neg z0, tk_go]
       obtain ⟨⟨D3, E3⟩, hS⟩ : ∃ R, sync D2 nn = R := ⟨_, rfl⟩
       rw [hS]
       by_cases h4 : E3 = 0
       · subst h4
         try dsimp only
         rw [if_neg z0, tk_go]
       · rw [if_pos h4, tk_no h4]
     · have h3b : ((D2, E2) : Dk × Int).2 ≠ 0 := h3
       rw [if_pos h3, tk_no h3b, tk_no h3b]
 · rw [if_pos h1]
   have h1' : (D1, E1).2 ≠ 0 := h1
   rw [tk_no h1', if_neg h9, tk_no h1', tk_no h1']
noncomputable def swapP (D : Dk) (m : Qm.Mn) : Dk × Int :=
 swapX ⟨(Qm.putM m).1.toArray⟩ (if (get D.f nn).isSome = true then tk (D, (Qm.putM m).2) (delete D nn) else (D, (Qm.putM m).2))
theorem swap_p (D : Dk) (m : Qm.Mn) : swap D m = swapP D m := by
 unfold swap swapP
 by_cases hm : Qm.Ok m
 · rw [Qm.putM_yes hm]
   dsimp only
   try dsimp only
   rw [if_neg z0, tk_go]
   split
   · have h9 := delete_nine D nn
     obtain ⟨⟨D1, E1⟩, hC⟩ : ∃ R, delete D nn = R := ⟨_, rfl⟩
     rw [hC] at h9 ⊢
     by_cases h1 : E1 = 0
     · subst h1
       try dsimp only
       rw [if_neg z0, swapX_go]
     · rw [if_pos h1, swapX_no h1 h9]
   · rw [swapX_go]
 · rw [Qm.putM_no hm]
   dsimp only
   rw [if_pos (by show (1 : Int) ≠ 0; decide)]
   have h1 : ((D, 1) : Dk × Int).2 ≠ 0 := by show (1 : Int) ≠ 0; decide
   have h9 : ((D, 1) : Dk × Int).2 ≠ 9 := by show (1 : Int) ≠ 9; decide
   split
   · rw [tk_no h1, swapX_no h1 h9]
   · rw [swapX_no h1 h9]
noncomputable def rollP (S : St) : St × Int :=
 if 64 ≤ S.g.length then (S, 9) else
 let T := (syncT S).1
 let X1 := tk (T.d, (syncT S).2) (create T.d (segN T.x))
 let X2 := tk X1 (swap X1.1 (man (more T X1.1)))
 if X2.2 = 0 then (more T X2.1, 0)
 else if X2.2 = 9 then ({ T with d := (wo X2.1 (segN T.x)).1 }, (wo X2.1 (segN T.x)).2)
 else ({ T with d := X2.1 }, X2.2)
theorem roll_p (S : St) : roll S = rollP S := by
 unfold roll rollP
 split
 · rfl
 have h8 : (syncT S).2 ≠ 9 := sync_nine _ _
 obtain ⟨⟨T, E0⟩, hT⟩ : ∃ R, syncT S = R := ⟨_, rfl⟩
 rw [hT] at h8 ⊢
 dsimp only at h8 ⊢
 by_cases h0 : E0 = 0
 · subst h0
   try dsimp only
   rw [if_neg z0, tk_go]
   have h9 := create_nine T.d (segN T.x)
   obtain ⟨⟨D1, E1⟩, hC⟩ : ∃ R, create T.d (segN T.x) = R := ⟨_, rfl⟩
   rw [hC] at h9 ⊢
   dsimp only at h9 ⊢
   by_cases h1 : E1 = 0
   · subst h1
     try dsimp only
     rw [if_neg z0, tk_go]
     obtain ⟨⟨D2, E2⟩, hW⟩ : ∃ R, swap D1 (man (more T D1)) = R := ⟨_, rfl⟩
     rw [hW]
     dsimp only
     by_cases h2 : E2 = 0
     · subst h2
       rw [if_neg (by decide), if_neg (by simp), if_pos rfl]
     · by_cases h3 : E2 = 9
       · rw [if_pos h3, if_neg h2, if_pos h3]; rfl
       · rw [if_neg h3, if_pos h2, if_neg h2, if_neg h3]
   · have h1' : (D1, E1).2 ≠ 0 := h1
     rw [if_pos h1, tk_no h1']
     dsimp only
     rw [if_neg h1, if_neg h9]
 · have h1' : ((T.d, E0) : Dk × Int).2 ≠ 0 := h0
   rw [if_pos h0, tk_no h1']
   rw [tk_no h1']
   dsimp only
   rw [if_neg h0, if_neg h8]
noncomputable def appP (S : St) (q : Int) (r : Rp.Rec) : St × Int :=
 open Classical in
 if ¬ (Rp.Ok r ∧ r.a = S.x) then (S, 1)
 else if S.x = 1099511627776 then (S, 13)
 else
  let T := if q ≤ (lastG S).z then (roll S).1 else S
  let E := if q ≤ (lastG S).z then (roll S).2 else 0
  let X := tk (T.d, E) (Dp.append T.d (segN (lastG T).b) ⟨(Rp.putB r).toArray⟩)
  if X.2 ≠ 0 then ({ T with d := X.1 }, X.2) else ({ T with d := X.1, g := grown T.g (Rp.putB r).length, x := T.x + 1 }, 0)
theorem put_p (T : St) (r : Rp.Rec) : put T r = (if (Dp.append T.d (segN (lastG T).b) ⟨(Rp.putB r).toArray⟩).2 ≠ 0 then ({ T with d := (Dp.append T.d (segN (lastG T).b) ⟨(Rp.putB r).toArray⟩).1 }, (Dp.append T.d (segN (lastG T).b) ⟨(Rp.putB r).toArray⟩).2) else ({ T with d := (Dp.append T.d (segN (lastG T).b) ⟨(Rp.putB r).toArray⟩).1, g := grown T.g (Rp.putB r).length, x := T.x + 1 }, 0)) := rfl
theorem app_p (S : St) (q : Int) (r : Rp.Rec) : So.append S q r = appP S q r := by
 unfold So.append appP
 split
 · rfl
 rename_i h
 have h : Rp.Ok r ∧ r.a = S.x := Classical.not_not.1 h
 have hx : 1099511627776 ≤ S.x ↔ S.x = 1099511627776 := by
  have := h.1.2.1
  rw [← h.2]
  omega
 by_cases h2 : 1099511627776 ≤ S.x
 · rw [if_pos h2, if_pos (hx.1 h2)]
 rw [if_neg h2, if_neg fun e => h2 (hx.2 e)]
 by_cases h3 : q ≤ (lastG S).z
 · simp only [if_pos h3]
   obtain ⟨⟨T, E0⟩, hT⟩ : ∃ R, roll S = R := ⟨_, rfl⟩
   rw [hT]
   dsimp only
   by_cases h0 : E0 = 0
   · subst h0
     try dsimp only
     rw [if_neg z0, tk_go, put_p]
   · have h1' : ((T.d, E0) : Dk × Int).2 ≠ 0 := h0
     rw [if_pos h0, tk_no h1']
     dsimp only
     rw [if_pos h0]
 · simp only [if_neg h3]
   rw [tk_go, put_p]
end So
namespace Sto
open Go.RowKit So Dsk Rts
theorem dk_s {w : World} {fv : Value} {l0 : List Dp.Fl} {R : Dp.Dk × Int} {e : Ending} {w' : World} (h : DkOut w fv l0 R e w') (hv : IsL FL w fv l0) (hS : Sm R.1) : DkAns w fv R e w' := by
 obtain ⟨v, rfl, h⟩ := h
 obtain ⟨a, n, c, rfl⟩ : ∃ a n c, v = .slice a n c := by
  rcases h.k with ⟨e1, _⟩ | k
  · obtain ⟨a, c, h, _⟩ := hv; exact ⟨a, _, c, e1.trans h⟩
  · exact Dsk.own_slice k
 refine ⟨a, n, c, rfl, ?_, ?_, h.w⟩
 · rcases h.k with ⟨e1, e2⟩ | hk
   · rw [e1, e2]; exact hv.keep h.w
   · exact hk.is (by have := hS.n; unfold maxLen; omega) hS.flb
 · intro t ht hs
   rcases h.k with ⟨e1, _⟩ | hk
   · rw [e1]; exact hs
   · exact own_sep hk ht
section
variable {D : Dp.Dk} {k : Nat} {fv : Value} {w : World}
theorem create_s (h : Bd D k) (hk : k ≤ 200000) (n : ByteArray) (hn : n.size ≤ 3000) (hv : IsL FL w fv D.f) : Calls Tryz.prog 68 #[dkVal fv D, .string n] w (DkAns w fv (Dp.create D n)) :=
 (create_any fv D n w hv (bd_sm3 h (by omega)) (by omega)).mono fun _ _ r => dk_s r hv (bd_sm3 (bd_create h n) (by omega))
theorem append_s (h : Bd D k) (hk : k ≤ 200000) (n s : ByteArray) (hs : s.size ≤ 3000) (hv : IsL FL w fv D.f) : Calls Tryz.prog 70 #[dkVal fv D, .string n, .string s] w (DkAns w fv (Dp.append D n s)) :=
 (append_any fv D n s w hv (bd_sm3 h (by omega)) (by omega)).mono fun _ _ r => dk_s r hv (bd_sm3 (bd_append h n hs) (by omega))
theorem sync_s (h : Bd D k) (hk : k ≤ 200000) (n : ByteArray) (hv : IsL FL w fv D.f) : Calls Tryz.prog 72 #[dkVal fv D, .string n] w (DkAns w fv (Dp.sync D n)) :=
 (sync_any fv D n w hv (bd_sm3 h (by omega))).mono fun _ _ r => dk_s r hv (bd_sm3 (bd_sync h n) (by omega))
theorem rename_s (h : Bd D k) (hk : k ≤ 200000) (n m : ByteArray) (hm : m.size ≤ 3000) (hv : IsL FL w fv D.f) : Calls Tryz.prog 158 #[dkVal fv D, .string n, .string m] w (DkAns w fv (Dp.rename D n m)) :=
 (rename_any fv D n m w hv (bd_sm3 h (by omega)) (by omega)).mono fun _ _ r => dk_s r hv (bd_sm3 (bd_rename h n hm) (by omega))
theorem delete_s (h : Bd D k) (hk : k ≤ 200000) (n : ByteArray) (hv : IsL FL w fv D.f) : Calls Tryz.prog 78 #[dkVal fv D, .string n] w (DkAns w fv (Dp.delete D n)) :=
 (delete_any fv D n w hv (bd_sm3 h (by omega))).mono fun _ _ r => dk_s r hv (bd_sm3 (bd_delete h n) (by omega))
end
theorem dks_lay {w W W' : World} {fv fv' : Value} {D' : Dp.Dk} (b : Below w.heap.size w W) (k : DkS W fv D' fv' W') {t : Nat} (h1 : w.heap.size ≤ t) (h2 : t < W.heap.size) (hs : Sep fv t) (x y z u q : Value) : DkS w fv D' fv' (set5 W' t x y z u q) :=
 ⟨IsL.set5 k.f (k.s t h2 hs) x y z u q, fun j hj hsj => k.s j (Nat.lt_of_lt_of_le hj b.size) hsj, bel_set5 (b.trans (k.w.mono b.size)) h1 x y z u q⟩
def Stp (N : Nat) (caps : Array Value) (fv : Value) (D : Dp.Dk) (R : Dp.Dk × Int) (w : World) : Prop :=
 (∀ args w, (callFunc N args).run Tryz.prog w = .ok (.enter N args) w) ∧ ∀ W, Below w.heap.size w W → Calls Tryz.prog N (#[dkVal fv D] ++ caps) W (DkAns W fv R)
theorem created_any (n : ByteArray) (w : World) : Calls Tryz.prog 124 #[.string n] w fun e w' => e = .returned (.func (.func 154) #[] #[.pointer (some ⟨w.heap.size, 0, none⟩)]) ∧ w' = w.alloc (.cells #[.string n] 9) := by
 have hmf := Dsk.made_func
 go_enter Tryz.func124, Tryz.ntmps124
 go_wp2_with fail
 go_ret
 exact ⟨rfl, rfl⟩
theorem created1 (fa : Option Addr) (fn fc : Nat) (D : Dp.Dk) (n : ByteArray) (b : Nat) (R : Dp.Dk × Int) (w : World) (hv : IsL FL w (.slice fa fn fc) D.f) (hb : w.heap[b]? = some (.cells #[.string n] 9 (0, 0)))
 (C : ∀ W, Below w.heap.size w W → Calls Tryz.prog 68 #[dkVal (.slice fa fn fc) D, .string n] W (DkAns W (.slice fa fn fc) R)) :
 Calls Tryz.prog 154 #[dkVal (.slice fa fn fc) D, .pointer (some ⟨b, 0, none⟩)] w (DkAns w (.slice fa fn fc) R) := by
 obtain ⟨g0, g1, gb, gs⟩ := boxes2 w #[.slice fa fn fc, .int .i64 D.c, .bool D.a, .int .i64 D.l, .bool D.x] #[.slice none 0 0, .int .i64 0, .bool false, .int .i64 0, .bool false] 28 28
 have HG := zid g1
 have HB := zid gb
 have HS := zid (Array.getElem?_eq_some_iff.1 g1).1
 have SP := zid (show Sep (.slice fa fn fc) (w.heap.size + 1) from IsL.sep_new hv (by omega))
 have HN := (cells1 (hkeep hb gb)).1
 have HC := zid C
 unfold dkVal at HC ⊢
 clear hv hb C g0 g1 gb gs
 go_enter Tryz.func154, Tryz.ntmps154
 go_wp2_with fail
 generalize World.alloc (World.alloc w _) _ = w0 at HG HB HS HN ⊢
 refine (HC.out _ HB.out).mono ?_
 rintro e w1 ⟨ga, gn, gc, rfl, kk⟩
 obtain ⟨q0, q1, q2, q3, q4⟩ := cells5 (hkeep HG.out kk.w)
 obtain ⟨qf0, qf1, qf2, qf3, qf4⟩ := frozen5 (hkeep HG.out kk.w)
 have LY := zid (dks_lay HB.out kk (t := w.heap.size + 1) (by omega) HS.out SP.out (.slice ga gn gc) (.int .i64 R.1.c) (.bool R.1.a) (.int .i64 R.1.l) (.bool R.1.x))
 clear kk
 unfold dkVal
 go_wp2_with fail
 refine bodyPost_ret (v := .tuple #[.agg #[.slice ga gn gc, .int .i64 R.1.c, .bool R.1.a, .int .i64 R.1.l, .bool R.1.x], .int .i64 R.2]) (by simp [results, Tryz.results154, go_sem, q0, q1, q2, q3, q4]) rfl ?_
 exact ⟨_, _, _, rfl, LY.out⟩
theorem deleted_any (n : ByteArray) (w : World) : Calls Tryz.prog 123 #[.string n] w fun e w' => e = .returned (.func (.func 153) #[] #[.pointer (some ⟨w.heap.size, 0, none⟩)]) ∧ w' = w.alloc (.cells #[.string n] 9) := by
 have hmf := Dsk.made_func
 go_enter Tryz.func123, Tryz.ntmps123
 go_wp2_with fail
 go_ret
 exact ⟨rfl, rfl⟩
theorem deleted1 (fa : Option Addr) (fn fc : Nat) (D : Dp.Dk) (n : ByteArray) (b : Nat) (R : Dp.Dk × Int) (w : World) (hv : IsL FL w (.slice fa fn fc) D.f) (hb : w.heap[b]? = some (.cells #[.string n] 9 (0, 0)))
 (C : ∀ W, Below w.heap.size w W → Calls Tryz.prog 78 #[dkVal (.slice fa fn fc) D, .string n] W (DkAns W (.slice fa fn fc) R)) :
 Calls Tryz.prog 153 #[dkVal (.slice fa fn fc) D, .pointer (some ⟨b, 0, none⟩)] w (DkAns w (.slice fa fn fc) R) := by
 obtain ⟨g0, g1, gb, gs⟩ := boxes2 w #[.slice fa fn fc, .int .i64 D.c, .bool D.a, .int .i64 D.l, .bool D.x] #[.slice none 0 0, .int .i64 0, .bool false, .int .i64 0, .bool false] 28 28
 have HG := zid g1
 have HB := zid gb
 have HS := zid (Array.getElem?_eq_some_iff.1 g1).1
 have SP := zid (show Sep (.slice fa fn fc) (w.heap.size + 1) from IsL.sep_new hv (by omega))
 have HN := (cells1 (hkeep hb gb)).1
 have HC := zid C
 unfold dkVal at HC ⊢
 clear hv hb C g0 g1 gb gs
 go_enter Tryz.func153, Tryz.ntmps153
 go_wp2_with fail
 generalize World.alloc (World.alloc w _) _ = w0 at HG HB HS HN ⊢
 refine (HC.out _ HB.out).mono ?_
 rintro e w1 ⟨ga, gn, gc, rfl, kk⟩
 obtain ⟨q0, q1, q2, q3, q4⟩ := cells5 (hkeep HG.out kk.w)
 obtain ⟨qf0, qf1, qf2, qf3, qf4⟩ := frozen5 (hkeep HG.out kk.w)
 have LY := zid (dks_lay HB.out kk (t := w.heap.size + 1) (by omega) HS.out SP.out (.slice ga gn gc) (.int .i64 R.1.c) (.bool R.1.a) (.int .i64 R.1.l) (.bool R.1.x))
 clear kk
 unfold dkVal
 go_wp2_with fail
 refine bodyPost_ret (v := .tuple #[.agg #[.slice ga gn gc, .int .i64 R.1.c, .bool R.1.a, .int .i64 R.1.l, .bool R.1.x], .int .i64 R.2]) (by simp [results, Tryz.results153, go_sem, q0, q1, q2, q3, q4]) rfl ?_
 exact ⟨_, _, _, rfl, LY.out⟩
theorem synced_any (n : ByteArray) (w : World) : Calls Tryz.prog 127 #[.string n] w fun e w' => e = .returned (.func (.func 156) #[] #[.pointer (some ⟨w.heap.size, 0, none⟩)]) ∧ w' = w.alloc (.cells #[.string n] 9) := by
 have hmf := Dsk.made_func
 go_enter Tryz.func127, Tryz.ntmps127
 go_wp2_with fail
 go_ret
 exact ⟨rfl, rfl⟩
theorem synced1 (fa : Option Addr) (fn fc : Nat) (D : Dp.Dk) (n : ByteArray) (b : Nat) (R : Dp.Dk × Int) (w : World) (hv : IsL FL w (.slice fa fn fc) D.f) (hb : w.heap[b]? = some (.cells #[.string n] 9 (0, 0)))
 (C : ∀ W, Below w.heap.size w W → Calls Tryz.prog 72 #[dkVal (.slice fa fn fc) D, .string n] W (DkAns W (.slice fa fn fc) R)) :
 Calls Tryz.prog 156 #[dkVal (.slice fa fn fc) D, .pointer (some ⟨b, 0, none⟩)] w (DkAns w (.slice fa fn fc) R) := by
 obtain ⟨g0, g1, gb, gs⟩ := boxes2 w #[.slice fa fn fc, .int .i64 D.c, .bool D.a, .int .i64 D.l, .bool D.x] #[.slice none 0 0, .int .i64 0, .bool false, .int .i64 0, .bool false] 28 28
 have HG := zid g1
 have HB := zid gb
 have HS := zid (Array.getElem?_eq_some_iff.1 g1).1
 have SP := zid (show Sep (.slice fa fn fc) (w.heap.size + 1) from IsL.sep_new hv (by omega))
 have HN := (cells1 (hkeep hb gb)).1
 have HC := zid C
 unfold dkVal at HC ⊢
 clear hv hb C g0 g1 gb gs
 go_enter Tryz.func156, Tryz.ntmps156
 go_wp2_with fail
 generalize World.alloc (World.alloc w _) _ = w0 at HG HB HS HN ⊢
 refine (HC.out _ HB.out).mono ?_
 rintro e w1 ⟨ga, gn, gc, rfl, kk⟩
 obtain ⟨q0, q1, q2, q3, q4⟩ := cells5 (hkeep HG.out kk.w)
 obtain ⟨qf0, qf1, qf2, qf3, qf4⟩ := frozen5 (hkeep HG.out kk.w)
 have LY := zid (dks_lay HB.out kk (t := w.heap.size + 1) (by omega) HS.out SP.out (.slice ga gn gc) (.int .i64 R.1.c) (.bool R.1.a) (.int .i64 R.1.l) (.bool R.1.x))
 clear kk
 unfold dkVal
 go_wp2_with fail
 refine bodyPost_ret (v := .tuple #[.agg #[.slice ga gn gc, .int .i64 R.1.c, .bool R.1.a, .int .i64 R.1.l, .bool R.1.x], .int .i64 R.2]) (by simp [results, Tryz.results156, go_sem, q0, q1, q2, q3, q4]) rfl ?_
 exact ⟨_, _, _, rfl, LY.out⟩
theorem appended_any (n s : ByteArray) (w : World) : Calls Tryz.prog 125 #[.string n, .string s] w fun e w' => e = .returned (.func (.func 155) #[] #[.pointer (some ⟨w.heap.size, 0, none⟩), .pointer (some ⟨w.heap.size + 1, 0, none⟩)]) ∧ w' = (w.alloc (.cells #[.string n] 9)).alloc (.cells #[.string s] 9) := by
 have hmf := Dsk.made_func
 go_enter Tryz.func125, Tryz.ntmps125
 go_wp2_with fail
 go_ret
 exact ⟨by simp, rfl⟩
theorem appended1 (fa : Option Addr) (fn fc : Nat) (D : Dp.Dk) (n s : ByteArray) (b b2 : Nat) (R : Dp.Dk × Int) (w : World) (hv : IsL FL w (.slice fa fn fc) D.f) (hb : w.heap[b]? = some (.cells #[.string n] 9 (0, 0))) (hb2 : w.heap[b2]? = some (.cells #[.string s] 9 (0, 0)))
 (C : ∀ W, Below w.heap.size w W → Calls Tryz.prog 70 #[dkVal (.slice fa fn fc) D, .string n, .string s] W (DkAns W (.slice fa fn fc) R)) :
 Calls Tryz.prog 155 #[dkVal (.slice fa fn fc) D, .pointer (some ⟨b, 0, none⟩), .pointer (some ⟨b2, 0, none⟩)] w (DkAns w (.slice fa fn fc) R) := by
 obtain ⟨g0, g1, gb, gs⟩ := boxes2 w #[.slice fa fn fc, .int .i64 D.c, .bool D.a, .int .i64 D.l, .bool D.x] #[.slice none 0 0, .int .i64 0, .bool false, .int .i64 0, .bool false] 28 28
 have HG := zid g1
 have HB := zid gb
 have HS := zid (Array.getElem?_eq_some_iff.1 g1).1
 have SP := zid (show Sep (.slice fa fn fc) (w.heap.size + 1) from IsL.sep_new hv (by omega))
 have HN := (cells1 (hkeep hb gb)).1
 have HN2 := (cells1 (hkeep hb2 gb)).1
 have HC := zid C
 unfold dkVal at HC ⊢
 clear hv hb hb2 C g0 g1 gb gs
 go_enter Tryz.func155, Tryz.ntmps155
 go_wp2_with fail
 generalize World.alloc (World.alloc w _) _ = w0 at HG HB HS HN HN2 ⊢
 refine (HC.out _ HB.out).mono ?_
 rintro e w1 ⟨ga, gn, gc, rfl, kk⟩
 obtain ⟨q0, q1, q2, q3, q4⟩ := cells5 (hkeep HG.out kk.w)
 obtain ⟨qf0, qf1, qf2, qf3, qf4⟩ := frozen5 (hkeep HG.out kk.w)
 have LY := zid (dks_lay HB.out kk (t := w.heap.size + 1) (by omega) HS.out SP.out (.slice ga gn gc) (.int .i64 R.1.c) (.bool R.1.a) (.int .i64 R.1.l) (.bool R.1.x))
 clear kk
 unfold dkVal
 go_wp2_with fail
 refine bodyPost_ret (v := .tuple #[.agg #[.slice ga gn gc, .int .i64 R.1.c, .bool R.1.a, .int .i64 R.1.l, .bool R.1.x], .int .i64 R.2]) (by simp [results, Tryz.results155, go_sem, q0, q1, q2, q3, q4]) rfl ?_
 exact ⟨_, _, _, rfl, LY.out⟩
theorem renamed_any (n s : ByteArray) (w : World) : Calls Tryz.prog 128 #[.string n, .string s] w fun e w' => e = .returned (.func (.func 157) #[] #[.pointer (some ⟨w.heap.size, 0, none⟩), .pointer (some ⟨w.heap.size + 1, 0, none⟩)]) ∧ w' = (w.alloc (.cells #[.string n] 9)).alloc (.cells #[.string s] 9) := by
 have hmf := Dsk.made_func
 go_enter Tryz.func128, Tryz.ntmps128
 go_wp2_with fail
 go_ret
 exact ⟨by simp, rfl⟩
theorem renamed1 (fa : Option Addr) (fn fc : Nat) (D : Dp.Dk) (n s : ByteArray) (b b2 : Nat) (R : Dp.Dk × Int) (w : World) (hv : IsL FL w (.slice fa fn fc) D.f) (hb : w.heap[b]? = some (.cells #[.string n] 9 (0, 0))) (hb2 : w.heap[b2]? = some (.cells #[.string s] 9 (0, 0)))
 (C : ∀ W, Below w.heap.size w W → Calls Tryz.prog 158 #[dkVal (.slice fa fn fc) D, .string n, .string s] W (DkAns W (.slice fa fn fc) R)) :
 Calls Tryz.prog 157 #[dkVal (.slice fa fn fc) D, .pointer (some ⟨b, 0, none⟩), .pointer (some ⟨b2, 0, none⟩)] w (DkAns w (.slice fa fn fc) R) := by
 obtain ⟨g0, g1, gb, gs⟩ := boxes2 w #[.slice fa fn fc, .int .i64 D.c, .bool D.a, .int .i64 D.l, .bool D.x] #[.slice none 0 0, .int .i64 0, .bool false, .int .i64 0, .bool false] 28 28
 have HG := zid g1
 have HB := zid gb
 have HS := zid (Array.getElem?_eq_some_iff.1 g1).1
 have SP := zid (show Sep (.slice fa fn fc) (w.heap.size + 1) from IsL.sep_new hv (by omega))
 have HN := (cells1 (hkeep hb gb)).1
 have HN2 := (cells1 (hkeep hb2 gb)).1
 have HC := zid C
 unfold dkVal at HC ⊢
 clear hv hb hb2 C g0 g1 gb gs
 go_enter Tryz.func157, Tryz.ntmps157
 go_wp2_with fail
 generalize World.alloc (World.alloc w _) _ = w0 at HG HB HS HN HN2 ⊢
 refine (HC.out _ HB.out).mono ?_
 rintro e w1 ⟨ga, gn, gc, rfl, kk⟩
 obtain ⟨q0, q1, q2, q3, q4⟩ := cells5 (hkeep HG.out kk.w)
 obtain ⟨qf0, qf1, qf2, qf3, qf4⟩ := frozen5 (hkeep HG.out kk.w)
 have LY := zid (dks_lay HB.out kk (t := w.heap.size + 1) (by omega) HS.out SP.out (.slice ga gn gc) (.int .i64 R.1.c) (.bool R.1.a) (.int .i64 R.1.l) (.bool R.1.x))
 clear kk
 unfold dkVal
 go_wp2_with fail
 refine bodyPost_ret (v := .tuple #[.agg #[.slice ga gn gc, .int .i64 R.1.c, .bool R.1.a, .int .i64 R.1.l, .bool R.1.x], .int .i64 R.2]) (by simp [results, Tryz.results157, go_sem, q0, q1, q2, q3, q4]) rfl ?_
 exact ⟨_, _, _, rfl, LY.out⟩
theorem taking_any (p q : Addr) (w : World) : Calls Tryz.prog 121 #[.pointer (some p), .pointer (some q)] w fun e w' => e = .returned (.func (.func 152) #[] #[.pointer (some ⟨w.heap.size + 1, 0, none⟩), .pointer (some ⟨w.heap.size, 0, none⟩)]) ∧ w' = (w.alloc (.cells #[.pointer (some p)] 106)).alloc (.cells #[.pointer (some q)] 107) := by
 have hmf := Dsk.made_func
 go_enter Tryz.func121, Tryz.ntmps121
 go_wp2_with fail
 go_ret
 exact ⟨by simp, rfl⟩
theorem take1_no (f : Value) (be bd pe : Nat) (E : Int) (hE : E ≠ 0) (w : World) (h1 : w.cell? ⟨be, 0, none⟩ = some (.pointer (some ⟨pe, 0, none⟩))) (h2 : w.cell? ⟨pe, 0, none⟩ = some (.int .i64 E)) :
 Calls Tryz.prog 152 #[f, .pointer (some ⟨be, 0, none⟩), .pointer (some ⟨bd, 0, none⟩)] w fun e w' => e = .returned (.tuple #[]) ∧ w = w' := by
 have hb := ne_b hE
 clear hE
 go_enter Tryz.func152, Tryz.ntmps152
 go_wp2_with fail
 go_end0
 exact ⟨rfl, rfl⟩
theorem region_plain {P : Program} {id : Nat} {ops : Array Oper} {Q : Exit → Act → World → Prop} {a : Act} {w : World} (hm : P.follows .mixedOrders = true) (S : World → Prop) (k : Nat) (hk : ops.size = k) (L : Array Bool) (hL : Array.replicate k false = L)
 (h : wpAnyH P .any ops Q S k L a w.drew) : (Code.region id ops true).wp P Q a w :=
 wp_region_held (S := S) hm (by rw [hk, hL]; exact h)
section
variable {W W' : World} {be bd pe pd : Nat} {x y : Value}
theorem Pq.keep (h : W.cell? ⟨be, 0, none⟩ = some x ∧ W.cell? ⟨bd, 0, none⟩ = some y) (k : Below W.heap.size W W') : W'.cell? ⟨be, 0, none⟩ = some x ∧ W'.cell? ⟨bd, 0, none⟩ = some y :=
 ⟨(k.cell (p := ⟨be, 0, none⟩) (block_lt_of_cell h.1)).trans h.1, (k.cell (p := ⟨bd, 0, none⟩) (block_lt_of_cell h.2)).trans h.2⟩
theorem Pq.st1 (h : W.cell? ⟨be, 0, none⟩ = some x ∧ W.cell? ⟨bd, 0, none⟩ = some y) {t i : Nat} {v : Value} (h1 : be ≠ t) (h2 : bd ≠ t) : (W.setCell ⟨t, i, none⟩ v).cell? ⟨be, 0, none⟩ = some x ∧ (W.setCell ⟨t, i, none⟩ v).cell? ⟨bd, 0, none⟩ = some y :=
 ⟨by rw [World.cell?_setCell_other _ _ _ _ (fun e => h1 (by injection e with e; exact e.symm))]; exact h.1, by rw [World.cell?_setCell_other _ _ _ _ (fun e => h2 (by injection e with e; exact e.symm))]; exact h.2⟩
theorem Pq.st5 (h : W.cell? ⟨be, 0, none⟩ = some x ∧ W.cell? ⟨bd, 0, none⟩ = some y) {t : Nat} {x0 x1 x2 x3 x4 : Value} (h1 : be ≠ t) (h2 : bd ≠ t) : (((((W.setCell ⟨t, 0, none⟩ x0).setCell ⟨t, 1, none⟩ x1).setCell ⟨t, 2, none⟩ x2).setCell ⟨t, 3, none⟩ x3).setCell ⟨t, 4, none⟩ x4).cell? ⟨be, 0, none⟩ = some x ∧ (((((W.setCell ⟨t, 0, none⟩ x0).setCell ⟨t, 1, none⟩ x1).setCell ⟨t, 2, none⟩ x2).setCell ⟨t, 3, none⟩ x3).setCell ⟨t, 4, none⟩ x4).cell? ⟨bd, 0, none⟩ = some y :=
 Pq.st1 (Pq.st1 (Pq.st1 (Pq.st1 (Pq.st1 h h1 h2) h1 h2) h1 h2) h1 h2) h1 h2
end
theorem take1_go (N : Nat) (caps : Array Value) (fa : Option Addr) (fn fc : Nat) (D : Dp.Dk) (R : Dp.Dk × Int) (be bd pe pd : Nat) (w : World) (hst : Stp N caps (.slice fa fn fc) D R w)
 (h1 : w.cell? ⟨be, 0, none⟩ = some (.pointer (some ⟨pe, 0, none⟩))) (h2 : w.cell? ⟨bd, 0, none⟩ = some (.pointer (some ⟨pd, 0, none⟩)))
 (he : ∃ T, w.heap[pe]? = some (.cells #[.int .i64 0] T (0, 0))) (hd : ∃ A T, w.heap[pd]? = some (.cells A T (0, 0)) ∧ A[0]? = some (.slice fa fn fc) ∧ A[1]? = some (.int .i64 D.c) ∧ A[2]? = some (.bool D.a) ∧ A[3]? = some (.int .i64 D.l) ∧ A[4]? = some (.bool D.x)) (hne : pd ≠ pe) (hb1 : be ≠ pd) (hb2 : be ≠ pe) (hb3 : bd ≠ pd) (hb4 : bd ≠ pe) :
 Calls Tryz.prog 152 #[.func (.func N) #[] caps, .pointer (some ⟨be, 0, none⟩), .pointer (some ⟨bd, 0, none⟩)] w fun e w' => e = .returned (.tuple #[]) ∧
  ∃ a n c W1, DkS w (.slice fa fn fc) R.1 (.slice a n c) W1 ∧ w' = (set5 W1 pd (.slice a n c) (.int .i64 R.1.c) (.bool R.1.a) (.int .i64 R.1.l) (.bool R.1.x)).setCell ⟨pe, 0, none⟩ (.int .i64 R.2) := by
 obtain ⟨T, he⟩ := he
 obtain ⟨A, T', hd, a0, a1, a2, a3, a4⟩ := hd
 obtain ⟨c0, c1, c2, c3, c4⟩ : w.cell? ⟨pd, 0, none⟩ = some (.slice fa fn fc) ∧ w.cell? ⟨pd, 1, none⟩ = some (.int .i64 D.c) ∧ w.cell? ⟨pd, 2, none⟩ = some (.bool D.a) ∧ w.cell? ⟨pd, 3, none⟩ = some (.int .i64 D.l) ∧ w.cell? ⟨pd, 4, none⟩ = some (.bool D.x) :=
  ⟨by rw [Lib.cell_of_heap hd]; exact a0, by rw [Lib.cell_of_heap hd]; exact a1, by rw [Lib.cell_of_heap hd]; exact a2, by rw [Lib.cell_of_heap hd]; exact a3, by rw [Lib.cell_of_heap hd]; exact a4⟩
 obtain ⟨e0, f0⟩ := cells1 he
 have A0 := zid (And.intro a0 (And.intro a1 (And.intro a2 (And.intro a3 a4))))
 have HD := zid hd
 have HE := zid he
 have hen := hst.1
 have HC := zid hst.2
 unfold dkVal at HC
 clear hd he hst a0 a1 a2 a3 a4
 go_enter Tryz.func152, Tryz.ntmps152
 go_upto_region 1 with (fail)
 have CL := zid fun (w1 : World) (kw : Below w.heap.size w w1) => (show (w1.cell? ⟨pd, 0, none⟩ = some (.slice fa fn fc) ∧ w1.cell? ⟨pd, 1, none⟩ = some (.int .i64 D.c) ∧ w1.cell? ⟨pd, 2, none⟩ = some (.bool D.a) ∧ w1.cell? ⟨pd, 3, none⟩ = some (.int .i64 D.l) ∧ w1.cell? ⟨pd, 4, none⟩ = some (.bool D.x)) ∧ (w1.frozen? ⟨pd, 0, none⟩ = false ∧ w1.frozen? ⟨pd, 1, none⟩ = false ∧ w1.frozen? ⟨pd, 2, none⟩ = false ∧ w1.frozen? ⟨pd, 3, none⟩ = false ∧ w1.frozen? ⟨pd, 4, none⟩ = false) ∧ w1.cell? ⟨pe, 0, none⟩ = some (.int .i64 0) ∧ w1.frozen? ⟨pe, 0, none⟩ = false from by
  have hd1 := hkeep HD.out kw
  have he1 := cells1 (hkeep HE.out kw)
  exact ⟨⟨by rw [Lib.cell_of_heap hd1]; exact A0.out.1, by rw [Lib.cell_of_heap hd1]; exact A0.out.2.1, by rw [Lib.cell_of_heap hd1]; exact A0.out.2.2.1, by rw [Lib.cell_of_heap hd1]; exact A0.out.2.2.2.1, by rw [Lib.cell_of_heap hd1]; exact A0.out.2.2.2.2⟩,
   ⟨Lib.frozen_of_heap hd1 0, Lib.frozen_of_heap hd1 1, Lib.frozen_of_heap hd1 2, Lib.frozen_of_heap hd1 3, Lib.frozen_of_heap hd1 4⟩, he1.1, he1.2⟩)
 have H1 := zid h1
 have H2 := zid h2
 have HNE := zid hne
 have P2 := zid fun (W : World) (x0 x1 x2 x3 x4 : Value) (h : W.cell? ⟨pe, 0, none⟩ = some (.int .i64 0)) (h' : W.frozen? ⟨pe, 0, none⟩ = false) => (show (((((W.setCell ⟨pd, 0, none⟩ x0).setCell ⟨pd, 1, none⟩ x1).setCell ⟨pd, 2, none⟩ x2).setCell ⟨pd, 3, none⟩ x3).setCell ⟨pd, 4, none⟩ x4).cell? ⟨pe, 0, none⟩ = some (.int .i64 0) ∧ (((((W.setCell ⟨pd, 0, none⟩ x0).setCell ⟨pd, 1, none⟩ x1).setCell ⟨pd, 2, none⟩ x2).setCell ⟨pd, 3, none⟩ x3).setCell ⟨pd, 4, none⟩ x4).frozen? ⟨pe, 0, none⟩ = false from
  ⟨(Pq.st5 ⟨h, h⟩ hne.symm hne.symm).1, by simpa using h'⟩)
 have HBN := zid (And.intro hb1 (And.intro hb3 (And.intro hb2 hb4)))
 clear hne hb1 hb2 hb3 hb4
 have h0 : (fun W : World => W.cell? ⟨be, 0, none⟩ = some (.pointer (some ⟨pe, 0, none⟩)) ∧ W.cell? ⟨bd, 0, none⟩ = some (.pointer (some ⟨pd, 0, none⟩))) w.drew := ⟨H1.out, H2.out⟩
 refine region_plain (by kernel_rfl) (fun W : World => W.cell? ⟨be, 0, none⟩ = some (.pointer (some ⟨pe, 0, none⟩)) ∧ W.cell? ⟨bd, 0, none⟩ = some (.pointer (some ⟨pd, 0, none⟩))) 14 rfl #[false, false, false, false, false, false, false, false, false, false, false, false, false, false] rfl ?_
 refine wpAnyH_take (i := 0) (v := .pointer (some ⟨pd, 0, none⟩)) rfl (by kernel_rfl) (by kernel_rfl) (by kernel_rfl) (fun _ _ _ h => h) (Or.inl ⟨by rfl, fun W' hS => ?_⟩) h0 ?_
 · have c := hS.2; go_simp
 simp only [Act.put, List.setIfInBounds_toArray, List.set_cons_zero]
 refine wpAnyH_take (i := 1) (v := .pointer (some ⟨pe, 0, none⟩)) rfl (by kernel_rfl) (by kernel_rfl) (by kernel_rfl) (fun _ _ _ h => h) (Or.inl ⟨by rfl, fun W' hS => ?_⟩) h0 ?_
 · have c := hS.1; go_simp
 simp only [Act.put, List.setIfInBounds_toArray, List.set_cons_zero, List.set_cons_succ]
 refine wpAnyH_take (i := 2) (v := .func (.func N) #[] caps) rfl (by kernel_rfl) (by kernel_rfl) (by kernel_rfl) (fun _ _ _ h => h) (Or.inl ⟨by rfl, fun W' hS => ?_⟩) h0 ?_
 · go_simp
 simp only [Act.put, List.setIfInBounds_toArray, List.set_cons_zero, List.set_cons_succ]
 refine wpAnyH_take (i := 3) (v := .pointer (some ⟨pd, 0, none⟩)) rfl (by kernel_rfl) (by kernel_rfl) (by kernel_rfl) (fun _ _ _ h => h) (Or.inl ⟨by rfl, fun W' hS => ?_⟩) h0 ?_
 · have c := hS.2; go_simp
 simp only [Act.put, List.setIfInBounds_toArray, List.set_cons_zero, List.set_cons_succ]
 refine wpAnyH_take (i := 4) (v := .pointer (some ⟨pd, 0, none⟩)) rfl (by kernel_rfl) (by kernel_rfl) (by kernel_rfl) (fun _ _ _ h => h) (Or.inl ⟨by rfl, fun W' hS => ?_⟩) h0 ?_
 · go_simp
 simp only [Act.put, List.setIfInBounds_toArray, List.set_cons_zero, List.set_cons_succ]
 refine wpAnyH_ready (rs := [5]) (by kernel_rfl) (by simp) (AllReadyH.cons rfl (fun K hK => ?_) AllReadyH.nil)
 go_simp
 refine (zid hK).out _ _ h0 (fun _ => ?_)
 clear hK K
 simp only [List.setIfInBounds_toArray, List.set_cons_zero, List.set_cons_succ]
 refine wpAnyH_ready (rs := [6]) (by kernel_rfl) (by simp) (AllReadyH.cons rfl (fun K hK => ?_) AllReadyH.nil)
 replace hK := zid hK
 go_simp
 refine (HC.out _ (by first | exact Below.refl _ _ | exact (Below.refl _ _).drew)).mono ?_
 rintro e w1 ⟨ga, gn, gc, rfl, kk⟩
 have kw : Below w.heap.size w w1 := (by first | exact kk.w | exact (Below.refl _ _).drew.trans kk.w)
 have KK : Hid (DkS w (.slice fa fn fc) R.1 (.slice ga gn gc) w1) := zid ⟨kk.f, kk.s, kw⟩
 have s5 := Pq.keep ⟨H1.out, H2.out⟩ kw
 obtain ⟨⟨r0, r1, r2, r3, r4⟩, ⟨t0, t1, t2, t3, t4⟩, r5, t5⟩ := CL.out w1 kw
 clear kk kw c0 c1 c2 c3 c4 e0 f0 h1 h2 h0
 dsimp only
 refine hK.out _ _ s5 (fun _ => ?_)
 clear hK K
 unfold dkVal
 simp only [List.setIfInBounds_toArray, List.set_cons_zero, List.set_cons_succ]
 refine wpAnyH_take (i := 7) (v := .tuple #[.agg #[.slice ga gn gc, .int .i64 R.1.c, .bool R.1.a, .int .i64 R.1.l, .bool R.1.x], .int .i64 R.2]) rfl (by kernel_rfl) (by kernel_rfl) (by kernel_rfl) (fun _ _ _ h => h) (Or.inl ⟨by rfl, fun W' hS => ?_⟩) s5 ?_
 · go_simp
 simp only [Act.put, List.setIfInBounds_toArray, List.set_cons_zero, List.set_cons_succ]
 refine wpAnyH_take (i := 8) (v := .agg #[.slice ga gn gc, .int .i64 R.1.c, .bool R.1.a, .int .i64 R.1.l, .bool R.1.x]) rfl (by kernel_rfl) (by kernel_rfl) (by kernel_rfl) (fun _ _ _ h => h) (Or.inl ⟨by rfl, fun W' hS => ?_⟩) s5 ?_
 · go_simp
 simp only [Act.put, List.setIfInBounds_toArray, List.set_cons_zero, List.set_cons_succ]
 refine wpAnyH_take (i := 9) (v := .int .i64 R.2) rfl (by kernel_rfl) (by kernel_rfl) (by kernel_rfl) (fun _ _ _ h => h) (Or.inl ⟨by rfl, fun W' hS => ?_⟩) s5 ?_
 · go_simp
 simp only [Act.put, List.setIfInBounds_toArray, List.set_cons_zero, List.set_cons_succ]
 refine wpAnyH_take (i := 10) (v := .pointer (some ⟨pd, 0, none⟩)) rfl (by kernel_rfl) (by kernel_rfl) (by kernel_rfl) (fun _ _ _ h => h) (Or.inl ⟨by rfl, fun W' hS => ?_⟩) s5 ?_
 · go_simp
 simp only [Act.put, List.setIfInBounds_toArray, List.set_cons_zero, List.set_cons_succ]
 refine wpAnyH_ready (rs := [11]) (by kernel_rfl) (by simp) (AllReadyH.cons rfl (fun K hK => ?_) AllReadyH.nil)
 replace hK := zid hK
 go_simp
 have s6 := Pq.st5 s5 (x0 := .slice ga gn gc) (x1 := .int .i64 R.1.c) (x2 := .bool R.1.a) (x3 := .int .i64 R.1.l) (x4 := .bool R.1.x) HBN.out.1 HBN.out.2.1
 obtain ⟨r6, t6⟩ := P2.out w1 (.slice ga gn gc) (.int .i64 R.1.c) (.bool R.1.a) (.int .i64 R.1.l) (.bool R.1.x) r5 t5
 refine hK.out _ _ s6 (fun _ => ?_)
 clear hK K
 obtain ⟨Z, hZ⟩ : ∃ Z, ((((w1.setCell ⟨pd, 0, none⟩ (.slice ga gn gc)).setCell ⟨pd, 1, none⟩ (.int .i64 R.1.c)).setCell ⟨pd, 2, none⟩ (.bool R.1.a)).setCell ⟨pd, 3, none⟩ (.int .i64 R.1.l)).setCell ⟨pd, 4, none⟩ (.bool R.1.x) = Z := ⟨_, rfl⟩
 rw [hZ] at s6 r6 t6 ⊢
 have HZ := zid hZ
 have s7 := Pq.st1 s6 (i := 0) (v := .int .i64 R.2) HBN.out.2.2.1 HBN.out.2.2.2
 clear hZ r0 r1 r2 r3 r4 t0 t1 t2 t3 t4 r5 t5
 refine wpAnyH_take (i := 12) (v := .pointer (some ⟨pe, 0, none⟩)) rfl (by kernel_rfl) (by kernel_rfl) (by kernel_rfl) (fun _ _ _ h => h) (Or.inl ⟨by rfl, fun W' hS => ?_⟩) s6 ?_
 · go_simp
 simp only [Act.put, List.setIfInBounds_toArray, List.set_cons_zero, List.set_cons_succ]
 refine wpAnyH_ready (rs := [13]) (by kernel_rfl) (by simp) (AllReadyH.cons rfl (fun K hK => ?_) AllReadyH.nil)
 replace hK := zid hK
 go_simp
 refine hK.out _ _ s7 (fun _ => ?_)
 clear hK K
 refine wpAnyH_done (by kernel_rfl) ?_ _
 clear r6 t6 s5 s6 s7
 go_wp2_with fail
 go_end0
 exact ⟨rfl, _, _, _, w1, KK.out, by rw [← HZ.out]; rfl⟩
end Sto
end Go.Proofs.YtijbpdpkoamhbaaGreat
