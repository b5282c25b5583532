/-
  What SparseTells answers: true, whatever it is given; nothing that was there is changed.
-/
import Derived.Test.YtailajcepjklaaaLaw08A
import Derived.Test.YtailajcepjklaaaMarkEq
import Derived.Deep.DeepCutAuto
import Derived.Deep.RegionHeld3
namespace Go.Proofs.Ytailajcepjklaaa.Mks
open Go.RowKit Go.Proofs.Ytailajcepjklaaa.Mp

/-- The two boxes of the law's own. -/
structure TwoB (mo mp h0 h1 : Int) (mb hb : Nat) (w W : World) : Prop where
  m : W.heap[mb]? = some (.cells #[.int .i64 mo, .int .i64 mp] 24 (0, 0))
  h : W.heap[hb]? = some (.cells #[.int .u8 h0, .int .u8 h1] 25 (0, 0))
  b : Below w.heap.size w W
theorem TwoB.keep {mo mp h0 h1 : Int} {mb hb : Nat} {w W W' : World} (h : TwoB mo mp h0 h1 mb hb w W) (b : Below W.heap.size W W') : TwoB mo mp h0 h1 mb hb w W' :=
  ⟨(b.block mb (Array.getElem?_eq_some_iff.1 h.m).1).trans h.m, (b.block hb (Array.getElem?_eq_some_iff.1 h.h).1).trans h.h, h.b.trans (b.mono h.b.size)⟩
theorem two_new (w : World) (A B : Array Value) (T U : TypeId) : ((w.alloc (.cells A T)).alloc (.cells B U)).drew.heap[w.heap.size]? = some (.cells A T (0, 0)) ∧ ((w.alloc (.cells A T)).alloc (.cells B U)).drew.heap[w.heap.size + 1]? = some (.cells B U (0, 0)) ∧ Below w.heap.size w ((w.alloc (.cells A T)).alloc (.cells B U)).drew := by
  have h1 : ((w.alloc (.cells A T)).alloc (.cells B U)).heap[w.heap.size]? = some (.cells A T (0, 0)) := by
    exact ((World.grownBy_alloc (w.alloc (.cells A T)) (.cells B U) none).block w.heap.size (by simp) (by simp)).trans (heap_alloc_new w _)
  have h2 := heap_alloc_new (w.alloc (.cells A T)) (.cells B U)
  rw [show (w.alloc (.cells A T)).heap.size = w.heap.size + 1 by simp] at h2
  exact ⟨h1, h2, (((Below.refl _ _).alloc (Nat.le_refl _) _).alloc (by simp) _).drew⟩

theorem add_ok {l : List Mk} {base every : Int} {m : Mk} (h : ∀ x ∈ l, MkB x) (hm : MkB m) : ∀ x ∈ add l base every m, MkB x := by
  intro x hx
  unfold add at hx
  split at hx
  · rw [List.mem_append] at hx
    rcases hx with hx | hx
    · exact h x hx
    · rw [List.mem_singleton] at hx; subst hx; exact hm
  · exact h x hx
/-- What both Adds leave: a list that is there. -/
def GotL (W : World) (L : List Mk) (e : Ending) (w' : World) : Prop := ∃ v', e = .returned v' ∧ IsL ML w' v' L ∧ Below W.heap.size W w'
theorem AddOut.isl {W w' : World} {v : Value} {l L : List Mk} {e : Ending} (h : AddOut W v l L e w') (hv : IsL ML W v l) (hl : L.length ≤ maxLen) (hb : ∀ x ∈ L, MkB x) : GotL W L e w' := by
  obtain ⟨v', rfl, h1, ⟨rfl, rfl⟩ | h2⟩ := h
  · exact ⟨_, rfl, hv.keep h1, h1⟩
  · exact ⟨_, rfl, h2.is hl hb, h1⟩
theorem outl_isl {W w' : World} {L : List Mk} {e : Ending} (h : OutL ML W W.heap.size L e w') (hl : L.length ≤ maxLen) (hb : ∀ x ∈ L, MkB x) : GotL W L e w' := by
  obtain ⟨v', rfl, h1, h2⟩ := h
  exact ⟨_, rfl, h1.is hl hb, h2⟩
theorem keep3 {w w1 w2 : World} {a : Nat} {x y : Value} (h : w1.cell? ⟨a, 0, none⟩ = some x ∧ w1.cell? ⟨a, 1, none⟩ = some y ∧ Below w.heap.size w w1) (b : Below w1.heap.size w1 w2) :
    w2.cell? ⟨a, 0, none⟩ = some x ∧ w2.cell? ⟨a, 1, none⟩ = some y ∧ Below w.heap.size w w2 :=
  ⟨(b.cell (p := ⟨a, 0, none⟩) (block_lt_of_cell h.1)).trans h.1, (b.cell (p := ⟨a, 1, none⟩) (block_lt_of_cell h.2.1)).trans h.2.1, h.2.2.trans (b.mono h.2.2.size)⟩

set_option maxRecDepth 100000 in
set_option maxHeartbeats 6400000 in
theorem tells08 (fa : Option Addr) (fn fc : Nat) (l : List Mk) (mo mp off h0 h1 : Int) (w : World) (hv : IsL ML w (.slice fa fn fc) l) (hnil : NilOk (.slice fa fn fc)) (hcap : CapOk (.slice fa fn fc)) (hm : MkB ⟨mo, mp⟩) (ho : -9223372036854775808 ≤ off ∧ off ≤ 9223372036854775807) (hh0 : 0 ≤ h0 ∧ h0 ≤ 255) (hh1 : 0 ≤ h1 ∧ h1 ≤ 255) :
    Calls Try.prog 3 #[.agg #[.slice fa fn fc, .int .i64 mo, .int .i64 mp, .int .i64 off, .int .u8 h0, .int .u8 h1]] w fun e w' => e = .returned (.bool true) ∧ Below w.heap.size w w' := by
  have HV := Lib.hid hv
  have HFL := Lib.hid hv.len.1
  have hfl2 : fn ≤ 9223372036854775807 := by have := hv.len; unfold maxLen at this; omega
  obtain ⟨ho1, ho2⟩ := ho
  obtain ⟨hh0, hh02⟩ := hh0
  obtain ⟨hh1, hh12⟩ := hh1
  obtain ⟨⟨hm1, hm2⟩, hm3, hm4⟩ := hm
  have HN := Lib.hid hnil
  have HC := Lib.hid hcap
  clear hnil hcap
  obtain ⟨b, hb⟩ : ∃ b : Bool, (b = true ↔ Right l) := by
    by_cases h : Right l
    · exact ⟨true, by simp [h]⟩
    · exact ⟨false, by simp [h]⟩
  have R1 := Lib.hid fun (W : World) (h : Below w.heap.size w W) => right08_any _ l b W (HV.out.keep h) hb
  have R2 := Lib.hid fun (W : World) (h : Below w.heap.size w W) => rright08_any _ l b W (HV.out.keep h) hb
  have HRB := Lib.hid hb
  have AW := Lib.hid fun W : World => awake08 W
  clear hv hb
  go_enter Try.func3, Try.ntmps3
  go_wp2_with fail
  have BX := Lib.hid ((Below.refl w.heap.size w).alloc (Nat.le_refl _) (.cells #[.slice fa fn fc, .int .i64 mo, .int .i64 mp, .int .i64 off, .int .u8 h0, .int .u8 h1] 27))
  have GX := Lib.hid (heap_alloc_new w (.cells #[.slice fa fn fc, .int .i64 mo, .int .i64 mp, .int .i64 off, .int .u8 h0, .int .u8 h1] 27))
  generalize World.alloc w _ = w0 at BX GX ⊢
  have x0 : w0.cell? ⟨w.heap.size, 0, none⟩ = some (.slice fa fn fc) := by rw [cell_of_row _ _ 0 _ _ _ GX.out]; rfl
  have x1 : w0.cell? ⟨w.heap.size, 1, none⟩ = some (.int .i64 mo) := by rw [cell_of_row _ _ 1 _ _ _ GX.out]; rfl
  have x2 : w0.cell? ⟨w.heap.size, 2, none⟩ = some (.int .i64 mp) := by rw [cell_of_row _ _ 2 _ _ _ GX.out]; rfl
  have x3 : w0.cell? ⟨w.heap.size, 3, none⟩ = some (.int .i64 off) := by rw [cell_of_row _ _ 3 _ _ _ GX.out]; rfl
  have x4 : w0.cell? ⟨w.heap.size, 4, none⟩ = some (.int .u8 h0) := by rw [cell_of_row _ _ 4 _ _ _ GX.out]; rfl
  have x5 : w0.cell? ⟨w.heap.size, 5, none⟩ = some (.int .u8 h1) := by rw [cell_of_row _ _ 5 _ _ _ GX.out]; rfl
  have hxl := (Array.getElem?_eq_some_iff.1 GX.out).1
  have n0 := World.new_ne w0 _ x0
  have n1 := World.new_ne w0 _ x1
  have n2 := World.new_ne w0 _ x2
  have n3 := World.new_ne w0 _ x3
  have n4 := World.new_ne w0 _ x4
  have n5 := World.new_ne w0 _ x5
  go_cut [3, 4, 5, 6] (fun v3 v4 v5 v6 w2 => ∃ mb hb : Nat, v3 = .slice fa fn fc ∧ v4 = .pointer (some ⟨mb, 0, none⟩) ∧ v5 = .int .i64 off ∧ v6 = .pointer (some ⟨hb, 0, none⟩) ∧ TwoB mo mp h0 h1 mb hb w0 w2)
  case first =>
    have X1 := Lib.hid (two_new w0 #[.int .i64 mo, .int .i64 mp] #[.int .u8 h0, .int .u8 h1] 24 25)
    have X2 := Lib.hid (two_new w0 #[.int .u8 h0, .int .u8 h1] #[.int .i64 mo, .int .i64 mp] 25 24)
    go_region_held3 (fun W => W.cell? ⟨w.heap.size, 0, none⟩ = some (.slice fa fn fc) ∧ W.cell? ⟨w.heap.size, 1, none⟩ = some (.int .i64 mo) ∧ W.cell? ⟨w.heap.size, 2, none⟩ = some (.int .i64 mp) ∧ W.cell? ⟨w.heap.size, 3, none⟩ = some (.int .i64 off) ∧ W.cell? ⟨w.heap.size, 4, none⟩ = some (.int .u8 h0) ∧ W.cell? ⟨w.heap.size, 5, none⟩ = some (.int .u8 h1)) (go_keep) (fail)
    all_goals go_wp2_with fail
    all_goals go_meet
    case rel => exact ⟨w0.heap.size, w0.heap.size + 1, rfl, rfl, rfl, rfl, X1.out.1, X1.out.2.1, X1.out.2.2⟩
    case rel => exact ⟨w0.heap.size + 1, w0.heap.size, rfl, rfl, rfl, rfl, X2.out.2.1, X2.out.1, X2.out.2.2⟩
  case rest =>
    obtain ⟨mb, hb', rfl, rfl, rfl, rfl, hT⟩ := hcut
    have HT := Lib.hid hT
    have HB := Lib.hid (BX.out.trans (hT.b.mono BX.out.size))
    clear x0 x1 x2 x3 x4 x5 n0 n1 n2 n3 n4 n5 hT GX hxl
    by_cases h3 : 300 < fn
    · have i3 : (300 : Int) < (fn : Int) := by omega
      go_wp2_with fail
      refine (AW.out _).mono ?_
      rintro e w5 ⟨rfl, b5⟩
      have B5 := Lib.hid (HB.out.trans (b5.mono HB.out.size))
      clear b5
      go_wp2_with fail
      refine (R1.out _ B5.out).mono ?_
      rintro e w6 ⟨rfl, b6⟩
      have B6 := Lib.hid (B5.out.trans (b6.mono B5.out.size))
      clear b6
      go_wp2_with fail
      refine (R2.out _ B6.out).mono ?_
      rintro e w7 ⟨rfl, n7, rfl⟩
      go_wp2_with fail
      go_ret
      exact ⟨by first | rfl | simp | (cases b <;> rfl), B6.out.trans ((bel_drewN n7).mono B6.out.size)⟩
    · have i3 : ¬ ((300 : Int) < (fn : Int)) := by omega
      have i4 : decide ((300 : Int) < (fn : Int)) = false := by simp; omega
      go_wp2_with fail
      refine (R1.out _ HB.out).mono ?_
      rintro e w5 ⟨rfl, b5⟩
      have H5 := Lib.hid (HT.out.keep b5)
      have B5 := Lib.hid (HB.out.trans (b5.mono HB.out.size))
      clear b5
      go_wp2_with fail
      refine (R2.out _ B5.out).mono ?_
      rintro e w6 ⟨rfl, n6, rfl⟩
      have H6 := Lib.hid (H5.out.keep (bel_drewN n6))
      have B6 := Lib.hid (B5.out.trans ((bel_drewN n6).mono B5.out.size))
      generalize w5.drewN n6 = w6 at H6 B6 ⊢
      clear H5 B5 HT HB R1 h3
      obtain ⟨q0, q1⟩ := cells2 H6.out.h
      go_wp2_with fail
      go_quiet (fail)
      have H7 := Lib.hid (H6.out.keep (bel_drewN nq))
      have B7 := Lib.hid (B6.out.trans ((bel_drewN nq).mono B6.out.size))
      clear q0 q1
      go_wp2_with fail
      generalize w6.drewN nq = w7 at H7 B7 ⊢
      obtain ⟨p0, p1⟩ := cells2 H7.out.m
      clear H6 B6
      go_cut [63] (fun v63 w8 => v63 = .bool false ∧ Below w.heap.size w w8)
      case first =>
        by_cases hge : h0 ≤ mo
        · have hE := show (1 : Int) ≤ 1 + h1 by omega
          have hE2 := show 1 + h1 ≤ (9223372036854775807 : Int) by omega
          have hl3 : l.length ≤ 1000000000 := by have := HFL.out; omega
          have hLl : (add l h0 (1 + h1) ⟨mo, mp⟩).length ≤ l.length + 1 := add_len _ _ _ _
          have hLm := add_ok (base := h0) (every := 1 + h1) (m := ⟨mo, mp⟩) HV.out.ok ⟨⟨hm1, hm2⟩, hm3, hm4⟩
          have A1 := fun (W : World) (h : W.cell? ⟨mb, 0, none⟩ = some (.int .i64 mo) ∧ W.cell? ⟨mb, 1, none⟩ = some (.int .i64 mp) ∧ Below w.heap.size w W) => (add08_any _ l h0 (1 + h1) ⟨mo, mp⟩ W (HV.out.keep h.2.2) HN.out HC.out hl3 hh0 hge hE hm2 hE2).mono fun e w' hq => hq.isl (HV.out.keep h.2.2) (by unfold maxLen; omega) hLm
          have A2 := fun (W : World) (h : W.cell? ⟨mb, 0, none⟩ = some (.int .i64 mo) ∧ W.cell? ⟨mb, 1, none⟩ = some (.int .i64 mp) ∧ Below w.heap.size w W) => (radd08_any _ l h0 (1 + h1) ⟨mo, mp⟩ W (HV.out.keep h.2.2) HN.out hl3 hh0 hge hE hm2 hE2).mono fun e w' hq => outl_isl hq (by unfold maxLen; omega) hLm
          generalize add l h0 (1 + h1) ⟨mo, mp⟩ = L at *
          unfold mkVal at A1 A2
          dsimp only at A1 A2
          replace A1 := Lib.hid A1
          replace A2 := Lib.hid A2
          have ST : w7.cell? ⟨mb, 0, none⟩ = some (.int .i64 mo) ∧ w7.cell? ⟨mb, 1, none⟩ = some (.int .i64 mp) ∧ Below w.heap.size w w7 := ⟨p0, p1, B7.out⟩
          have e5 : decide (h0 ≤ mo) = true := by simpa using hge
          clear p0 p1 hLl hLm
          go_region_held3 (fun W => W.cell? ⟨mb, 0, none⟩ = some (.int .i64 mo) ∧ W.cell? ⟨mb, 1, none⟩ = some (.int .i64 mp) ∧ Below w.heap.size w W) (first | assumption | exact keep3 (by assumption) (Below.refl _ _).drew | exact keep3 (by assumption) (by assumption) | exact keep3 (by assumption) (bel_drewN _)) (first | (go_at_call 10; refine (A1.out _ (by assumption)).mono ?_; rintro e w8 ⟨v8, rfl, i8, b8⟩; have I8 := Lib.hid i8; clear i8) | (go_at_call 11; refine (A2.out _ (by assumption)).mono ?_; rintro e w9 ⟨v9, rfl, i9, b9⟩; have I9 := Lib.hid i9; have I8K := Lib.hid (I8.out.keep b9); clear i9) | (go_at_call 9; refine (rsame08_yes _ _ L _ I8K.out I9.out).mono ?_; rintro e w10 ⟨rfl, n10, rfl⟩; have b10 := bel_drewN (w := w9) n10))
          go_wp2_with fail
          go_meet
          case rel =>
            rename_i qq
            exact ⟨by first | rfl | simp, qq.2.2⟩
        · have e5 : decide (h0 ≤ mo) = false := by simpa using hge
          go_quiet (fail)
          go_wp2_with fail
          go_meet
          case rel => exact ⟨rfl, B7.out.trans ((bel_drewN _).mono B7.out.size)⟩
      case rest =>
        obtain ⟨rfl, hB8⟩ := hcut
        have B8 := Lib.hid hB8
        clear hB8 p0 p1 H7 B7
        go_wp2_with fail
        refine (R2.out _ B8.out).mono ?_
        rintro e w9 ⟨rfl, n9, rfl⟩
        have B9 := Lib.hid (B8.out.trans ((bel_drewN n9).mono B8.out.size))
        generalize wc.drewN n9 = w9 at B9 ⊢
        clear R2 B8
        cases b
        · go_wp2_with fail
          refine (AW.out _).mono ?_
          rintro e w10 ⟨rfl, b10⟩
          have B10 := Lib.hid (B9.out.trans (b10.mono B9.out.size))
          clear b10
          go_wp2_with fail
          go_ret
          exact ⟨rfl, B10.out⟩
        · have hR : Right l := HRB.out.1 rfl
          obtain ⟨n, hn⟩ := split_some hR off
          have F1 := fun (W : World) (h : Below w.heap.size w W) => find08_any _ l off n W (HV.out.keep h) hn
          have F2 := fun (W : World) (h : Below w.heap.size w W) => rfind08_any _ l off n W (HV.out.keep h) hn
          obtain ⟨o, p, ok, hfv⟩ : ∃ (o p : Int) (ok : Bool), fndVal l n = .tuple #[.agg #[.int .i64 o, .int .i64 p], .bool ok] := by
            cases n with
            | zero => exact ⟨0, 0, false, rfl⟩
            | succ n => exact ⟨_, _, true, rfl⟩
          rw [hfv] at F1 F2
          replace F1 := Lib.hid F1
          replace F2 := Lib.hid F2
          clear hR hn hfv
          go_wp2_with fail
          refine (F1.out _ B9.out).mono ?_
          rintro e w10 ⟨rfl, b10⟩
          have B10 := Lib.hid (B9.out.trans (b10.mono B9.out.size))
          have G11 := Lib.hid (heap_alloc_new w10 (.cells #[.int .i64 o, .int .i64 p] 24))
          have B11 := Lib.hid (B10.out.alloc B10.out.size (.cells #[.int .i64 o, .int .i64 p] 24))
          clear b10
          go_wp2_with fail
          refine (F2.out _ B11.out).mono ?_
          rintro e w12 ⟨rfl, b12⟩
          have G12 := Lib.hid (hkeep2 G11.out b12)
          have B12 := Lib.hid (B11.out.trans (b12.mono B11.out.size))
          have hx := (Array.getElem?_eq_some_iff.1 G12.out).1
          obtain ⟨tb, htb⟩ : ∃ tb, w10.heap.size = tb := ⟨_, rfl⟩
          rw [htb] at G12 hx ⊢
          clear b12 htb G11
          have G13 := Lib.hid (heap_alloc_new w12 (.cells #[.int .i64 o, .int .i64 p] 24))
          have D13 := Lib.hid ((Below.refl w12.heap.size w12).alloc (Nat.le_refl _) (.cells #[.int .i64 o, .int .i64 p] 24))
          have B13 := Lib.hid (B12.out.alloc B12.out.size (.cells #[.int .i64 o, .int .i64 p] 24))
          go_wp2_with fail
          refine (AW.out _).mono ?_
          rintro e w14 ⟨rfl, b14⟩
          have B14 := Lib.hid (B13.out.trans (b14.mono B13.out.size))
          obtain ⟨x0, x1⟩ := cells2 (hkeep2 (hkeep2 G12.out D13.out) b14)
          obtain ⟨y0, y1⟩ := cells2 (hkeep2 G13.out b14)
          have hq := mk_eql
          clear b14
          go_wp2_with fail
          go_ret
          exact ⟨by first | rfl | simp, B14.out⟩

end Go.Proofs.Ytailajcepjklaaa.Mks
