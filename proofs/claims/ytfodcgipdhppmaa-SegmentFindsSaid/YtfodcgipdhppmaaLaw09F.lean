/-
  What SegmentFinds answers: true, whatever it is given; nothing that was there is changed.
-/
import Derived.Test.YtfodcgipdhppmaaLaw09R
import Derived.Test.YtfodcgipdhppmaaLaw09A
import Derived.BigQuiet
namespace Go.Proofs.Ytfodcgipdhppmaa
open Go.RowKit Go.Proofs.Ytfodcgipdhppmaa.Mks Go.Proofs.Ytfodcgipdhppmaa.Gp

theorem withAt_at (l : List Rp.Rec) (k i : Nat) : ((withAt l k).getD i pz).1 = l.getD i Rp.zero := by
  have := map_getD Prod.fst (withAt l k) i pz
  rw [withAt_fst] at this
  exact this.symm
theorem rd_row_out {b off : Int} {ss : List ByteArray} {n : Nat} (h : off < b ∨ b + n ≤ off) : rdVal9 (withAt (recF b ss n) 0) b off = .tuple #[.agg #[.int .i64 0, .int .i64 0, .string ⟨#[]⟩], .int .i64 6] := by
  unfold rdVal9
  rw [rd_out (by rw [withAt_len, recF_len]; exact h)]
  rfl
theorem rd_row_in {b : Int} {ss : List ByteArray} {n i : Nat} (h : i < n) : rdVal9 (withAt (recF b ss n) 0) b (b + i) = .tuple #[.agg #[.int .i64 (b + (i : Int)), .int .i64 (i : Int), .string (ss.getD i ByteArray.empty)], .int .i64 0] := by
  unfold rdVal9
  have hl : i < (withAt (recF b ss n) 0).length := by rw [withAt_len, recF_len]; exact h
  rw [rd_in _ b hl, ← getD_ps hl]
  dsimp only
  rw [withAt_at, recF_at b ss h]
  rfl

set_option maxRecDepth 100000 in
set_option maxHeartbeats 3200000 in
theorem finds9 (v : Value) (ss : List ByteArray) (base every : Int) (w : World) (hv : IsStrs w v ss) (hb0 : 0 ≤ base) (hb1 : base ≤ 65535) (he0 : 0 ≤ every) (he1 : every ≤ 255) :
    Calls Try.prog 6 #[.int .u16 base, v, .int .u8 every] w fun e w' => e = .returned (.bool true) ∧ Below w.heap.size w w' := by
  obtain ⟨fa, fn, fc, rfl⟩ : ∃ a n c, v = .slice a n c := by obtain ⟨a, c, h, _⟩ := hv; exact ⟨a, _, c, h⟩
  have HV := Lib.hid hv
  have HFL := Lib.hid (strsV_len hv).1
  have hfm : fn ≤ 9223372036854775807 := by have := (strsV_len hv).2.1; have := (strsV_len hv).1; unfold maxLen at *; omega
  have RW := Lib.hid (row9_any _ ss base w hv hb0 hb1)
  have AW := Lib.hid fun W : World => awake09 W
  clear hv
  go_enter Try.func6, Try.ntmps6
  go_wp2_with fail
  refine RW.out.mono ?_
  rintro e w1 (⟨hfit, ve, rfl, hve, b1⟩ | ⟨hno, rfl, b1⟩)
  · have HB1 := Lib.hid b1
    have hlen : ss.length ≤ 20 := hfit.1
    have hall := fun i (hi : i < ss.length) => hfit.2 _ (getD_mem hi)
    have hn : fn ≤ 20 := by rw [HFL.out]; exact hlen
    have hrow := full_row hb0 hb1 (n := ss.length) (by omega) hall
    have hle := endF_le hb0 hb1 (n := ss.length) (by omega) hall
    obtain ⟨S, hS⟩ : ∃ S : ByteArray, (⟨(Rp.rowB (recF base ss ss.length)).toArray⟩ : ByteArray) = S := ⟨_, rfl⟩
    have hz : S.size = endF base ss ss.length := by rw [← hS, size_mk_list]; rfl
    have hl : S.data.toList = Rp.rowB (recF base ss ss.length) := by rw [← hS]
    have hz2 : S.size ≤ 1000000000 := by omega
    have IX := fun W : World => index9_any S base (1 + every) W hz2 (by omega) (by omega) (by omega) (by omega)
    have RD := fun (W : World) (u : Value) (off : Int) (h1 : -9223372036854775808 ≤ off) (h2 : off ≤ 9223372036854775807) hu => read9_any S base (1 + every) off u W hz2 (by omega) (by omega) (by omega) (by omega) h1 h2 hu
    rw [hl, hrow] at IX RD
    dsimp only at IX RD
    have HOUT := Lib.hid fun (off : Int) (h : off < base ∨ base + (fn : Int) ≤ off) => rd_row_out (b := base) (off := off) (ss := ss) (n := ss.length) (by rw [← HFL.out]; exact h)
    have HIN := Lib.hid fun (i : Nat) (h : i < fn) => rd_row_in (b := base) (ss := ss) (n := ss.length) (i := i) (by rw [← HFL.out]; exact h)
    generalize rdVal9 (withAt (recF base ss ss.length) 0) base = RV at *
    generalize ix (withAt (recF base ss ss.length) 0) base (1 + every) (withAt (recF base ss ss.length) 0).length = L at *
    rw [hS]
    replace IX := Lib.hid IX
    replace RD := Lib.hid RD
    clear hS hl hz hrow hle hve b1 hfit hlen hall RW
    go_wp2_with fail
    refine (IX.out _).mono ?_
    rintro e w2 ⟨u, rfl, hu, b2⟩
    have HU := Lib.hid hu
    have B2 := Lib.hid (HB1.out.trans (b2.mono HB1.out.size))
    clear hu b2
    go_wp2_with fail
    go_loopw [11] (fun i wr => ∃ x : Int, -1 ≤ x ∧ x ≤ (fn : Int) + 1 ∧ i = .int .i64 x ∧ Below w2.heap.size w2 wr) (fun i _ => ((fn : Int) + 1 - intOf i).toNat)
    case atStart => exact ⟨-1, by omega, by omega, rfl, Below.refl _ _⟩
    case round =>
      obtain ⟨x, hx0, hx1, rfl, hb⟩ := hrel
      have HB := Lib.hid hb
      have HBW := Lib.hid (B2.out.trans (hb.mono B2.out.size))
      have hR := RD.out wr u (base + x) (by omega) (by omega) (HU.out.keep hb)
      by_cases hend : (fn : Int) < x
      · clear hR
        have e1 : decide (x ≤ (fn : Int)) = false := by simp; omega
        have e2 : ¬ x ≤ (fn : Int) := by omega
        clear hb
        go_wp2_with fail
        refine (AW.out _).mono ?_
        rintro e w9 ⟨rfl, b9⟩
        go_wp2_with fail
        go_ret
        exact ⟨rfl, HBW.out.trans (b9.mono HBW.out.size)⟩
      · by_cases hout : x < 0 ∨ x = (fn : Int)
        · rw [HOUT.out (base + x) (by omega)] at hR
          have HR := Lib.hid hR
          have hxle : x ≤ (fn : Int) := by omega
          have HB3 := Lib.hid fun (W : World) (b : Below wr.heap.size wr W) => (HB.out.trans (b.mono HB.out.size)).alloc (Nat.le_trans HB.out.size b.size) (.cells #[.int .i64 0, .int .i64 0, .string ⟨#[]⟩] 35)
          clear hR hb hend
          rcases hout with hlt | rfl
          · have e1 : decide (x < 0) = true := by simpa using hlt
            go_wp2_with fail
            refine HR.out.mono ?_
            rintro e w3 ⟨rfl, b3⟩
            have HB4 := Lib.hid (HB3.out _ b3)
            clear b3
            go_wp2_with fail
            go_roundw
            case rel => exact ⟨x + 1, by omega, by omega, by go_num, HB4.out⟩
            case measure => simp [intOf]; omega
          · have e1 : decide ((fn : Int) < 0) = false := by simp
            go_wp2_with fail
            refine HR.out.mono ?_
            rintro e w3 ⟨rfl, b3⟩
            have HB4 := Lib.hid (HB3.out _ b3)
            clear b3
            go_wp2_with fail
            go_roundw
            case rel => exact ⟨(fn : Int) + 1, by omega, by omega, by go_num, HB4.out⟩
            case measure => simp [intOf]
        · obtain ⟨m, rfl⟩ : ∃ m : Nat, x = (m : Int) := ⟨x.toNat, by omega⟩
          have hm : m < fn := by omega
          rw [HIN.out m hm] at hR
          have HR := Lib.hid hR
          obtain ⟨hfe, g, off, rfl, c0⟩ := str_at (HV.out.below HBW.out (Nat.le_refl _)) hm
          have hgl := block_lt_of_cell c0
          have e1 : decide ((m : Int) < 0) = false := by simp
          have e2 : ((m : Int) == (fn : Int)) = false := by simp; omega
          have hxle : (m : Int) ≤ (fn : Int) := by omega
          clear hR hb hend hout hfe
          generalize ss.getD m ByteArray.empty = s at *
          go_wp2_with fail
          refine HR.out.mono ?_
          rintro e w3 ⟨rfl, b3⟩
          have HB4 := Lib.hid ((HB.out.trans (b3.mono HB.out.size)).alloc (Nat.le_trans HB.out.size b3.size) (.cells #[.int .i64 (base + (m : Int)), .int .i64 (m : Int), .string s] 35))
          have c4 := ((b3.alloc b3.size (.cells #[.int .i64 (base + (m : Int)), .int .i64 (m : Int), .string s] 35)).cell (p := ⟨g, off + m, none⟩) hgl).trans c0
          obtain ⟨x0, x1, x2⟩ := cells3 (heap_alloc_new w3 (.cells #[.int .i64 (base + (m : Int)), .int .i64 (m : Int), .string s] 35))
          clear b3 c0
          go_wp2_with fail
          obtain ⟨tb, htb⟩ : ∃ tb, w3.heap.size = tb := ⟨_, rfl⟩
          rw [htb] at x0 x1 x2 ⊢
          clear htb
          generalize World.alloc w3 _ = w4 at HB4 c4 x0 x1 x2 ⊢
          go_quiet (fail)
          go_wp2_with fail
          go_roundw
          case rel => exact ⟨(m : Int) + 1, by omega, by omega, by go_num, HB4.out.trans ((bel_drewN _).mono HB4.out.size)⟩
          case measure => simp [intOf]; omega
  · have B1 := Lib.hid b1
    clear b1 hno
    go_wp2_with fail
    refine (AW.out _).mono ?_
    rintro e w2 ⟨rfl, b2⟩
    go_wp2_with fail
    go_ret
    exact ⟨rfl, B1.out.trans (b2.mono B1.out.size)⟩

end Go.Proofs.Ytfodcgipdhppmaa
