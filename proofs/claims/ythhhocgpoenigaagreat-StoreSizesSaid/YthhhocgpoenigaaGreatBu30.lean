/-
  Parts of what the laws of this seat stand on: StoTail, StoRd, StoFit2, SegIter.
-/
import Derived.Deep.DeepCutAuto
import Derived.Deep.RegionHeld3
import Derived.LoopIn
import Derived.LoopNIn
import Derived.OwnWalkIn
import Derived.RangeFuncBound
import Derived.RangeFuncCalls
import Derived.RangeFuncLeaves
import Derived.RangeFuncNested
import Derived.Shelf.Abstract
import Derived.Shelf.RegionOpen
import Derived.TacticsInMore
import Derived.Test.YthhhocgpoenigaaGreatBu11
import Derived.Test.YthhhocgpoenigaaGreatBu12
import Derived.Test.YthhhocgpoenigaaGreatBu17
import Derived.Test.YthhhocgpoenigaaGreatBu20
import Derived.Test.YthhhocgpoenigaaGreatBu21
import Derived.Test.YthhhocgpoenigaaGreatBu22
import Derived.Test.YthhhocgpoenigaaGreatBu25
import Derived.Test.YthhhocgpoenigaaGreatBu29
import Derived.Test.YthhhocgpoenigaaGreatBu5
import Derived.Test.YthhhocgpoenigaaGreatBu6
import Derived.WalkKit
namespace Go.Proofs.YthhhocgpoenigaaGreat.Sto
open Go.RowKit Go.Proofs.YthhhocgpoenigaaGreat.So Go.Proofs.YthhhocgpoenigaaGreat.Dsk Go.Proofs.YthhhocgpoenigaaGreat.Rts

theorem dat_file {D : Dp.Dk} {n : ByteArray} {l : List UInt8} (h : dat D n = some l) : ∃ f, Dp.get D.f n = some f ∧ f.d.data.toList = l := by
  unfold dat at h
  cases hg : Dp.get D.f n with
  | none => rw [hg] at h; cases h
  | some f => rw [hg] at h; injection h with h; exact ⟨f, rfl, h⟩

theorem row_ext {s : ByteArray} {m : List Rp.Rec} {k x : Nat} (h : s.data.toList = Rp.rowB m) (hx : (Rp.rowB (m.take k)).length = x) : s.extract x s.size = ⟨(Rp.rowB (m.drop k)).toArray⟩ := by
  apply ByteArray.ext
  apply Array.ext'
  rw [ext_list, h, ← hx, row_drop, List.take_of_length_le]
  have h1 := congrArg List.length (rowB_append (m.take k) (m.drop k))
  have h2 := congrArg List.length h
  rw [List.take_append_drop, List.length_append] at h1
  have h3 : s.size = s.data.toList.length := by simp
  omega

set_option maxRecDepth 100000 in
set_option maxHeartbeats 1600000 in
theorem tail12_any (fa : Option Addr) (fn fc : Nat) (D : Dp.Dk) (b n z : Int) (m : List Rp.Rec) (j : Nat) (w : World) (hv : IsL FL w (.slice fa fn fc) D.f) (hS : Sm D) (hok : ∀ r ∈ m, Rp.Ok r) (hb : 0 ≤ b ∧ b ≤ 1152921504606846976) (hd : dat D (segN b) = some (Rp.rowB m)) (hj : j ≤ m.length) (hm : m.length ≤ 1000000) :
    Calls Tryz.prog 58 #[dkVal (.slice fa fn fc) D, .agg #[.int .i64 b, .int .i64 n, .int .i64 z], .int .i64 (b + j)] w fun e w' => e = .returned (.string ⟨(Rp.rowB (m.drop j)).toArray⟩) ∧ Below w.heap.size w w' := by
  obtain ⟨f, hf, hfl⟩ := dat_file hd
  obtain ⟨s, hs⟩ : ∃ s, f.d = s := ⟨_, rfl⟩
  rw [hs] at hfl
  have hsz : s.size = (Rp.rowB m).length := by rw [← hfl]; simp
  have hs9 : s.size ≤ 1000000000 := by have := used_mem (Dp.get_mem hf).1; have := hS.u; rw [← hs]; omega
  have RD := Lib.hid fun (W : World) (h : IsL FL W (.slice fa fn fc) D.f) => Dsk.read_any (.slice fa fn fc) D (segN b) W h hS.r.2.1 (by have := hS.n; omega)
  rw [readVal_yes hf, hs] at RD
  have SN := Lib.hid fun W : World => seg_any b W (by omega)
  have HV := Lib.hid hv
  obtain ⟨g0, g1, gb, gs⟩ := boxes2 w #[.slice fa fn fc, .int .i64 D.c, .bool D.a, .int .i64 D.l, .bool D.x] #[.int .i64 b, .int .i64 n, .int .i64 z] 27 65
  have GB := Lib.hid gb
  have G1 := Lib.hid g1
  have GS := Lib.hid gs
  have HW1 : IntKind.i64.wrap (b + (j : Int) - b) = (j : Int) := by
    rw [show b + (j : Int) - b = (j : Int) from by omega]
    exact IntWalk.i64_in _ ⟨by omega, by omega⟩
  have HFR := Lib.hid fun (k : Nat) (hk : k < m.length) => frame_at hok hk
  have HFL := Lib.hid hfl
  have HSZ := Lib.hid hsz
  have HS9 := Lib.hid hs9
  have HJ := Lib.hid (show j ≤ m.length ∧ m.length ≤ 1000000 from ⟨hj, hm⟩)
  have HLE := Lib.hid fun (k : Nat) => (show (Rp.rowB (m.take k)).length ≤ s.size from by
    have h := congrArg List.length (rowB_append (m.take k) (m.drop k))
    rw [List.take_append_drop, List.length_append] at h
    omega)
  have VR := Lib.hid fun (i : Int) (W : World) => Go.Proofs.YthhhocgpoenigaaGreat.read_any s i W (by omega)
  unfold dkVal at RD ⊢
  unfold segN at RD
  obtain ⟨d0, d1, d2, d3, d4⟩ := cells5 g0
  obtain ⟨p0, _, _⟩ := Dsk.cells3 g1
  clear hv hS hok hb hd hf hs hsz hs9 hfl hj g0 g1 gb gs hm
  go_enter Tryz.func58, Tryz.ntmps58
  go_upto_region 1 with (fail)
  generalize World.alloc (World.alloc w _) _ = w0 at GB G1 GS d0 d1 d2 d3 d4 p0 ⊢
  have hlt : w.heap.size < w0.heap.size := by rw [GS.out]; omega
  have hlt1 : w.heap.size + 1 < w0.heap.size := by rw [GS.out]; omega
  go_cut [7] (fun v wc => v = .string s ∧ Below w0.heap.size w0 wc)
  case first =>
    go_region_held3 (fun W => (∀ b o, b < w0.heap.size → W.cell? ⟨b, o, none⟩ = w0.cell? ⟨b, o, none⟩) ∧ Below w0.heap.size w0 W) (first | with_reducible assumption | with_reducible exact KW.dr _ | with_reducible exact KW.keep (by assumption) (Below.refl _ _).drew | with_reducible exact KW.keep (by assumption) (by assumption)) (first | (go_at_call 35; refine (SN.out _).mono ?_; rintro e w5 ⟨rfl, q5⟩; have s5 := KW.keep (by assumption) q5) | (go_at_call 85; refine (RD.out _ (HV.out.keep (GB.out.trans ((KW.bel (by assumption)).mono GB.out.size)))).mono ?_; rintro e w5 ⟨rfl, q5⟩; have s5 := KW.keep (by assumption) q5))
    all_goals
      rename_i hh
      have LB := Lib.hid (KW.bel hh)
      clear hh
      go_wp2_with fail
      go_meet
      case rel => exact ⟨rfl, LB.out⟩
  case rest =>
    obtain ⟨rfl, hbw⟩ := hcut
    have WB := Lib.hid (GB.out.trans (hbw.mono GB.out.size))
    obtain ⟨p0, p1, p2⟩ := Dsk.cells3 (hkeep G1.out hbw)
    clear hbw RD SN
    go_wp2_with fail
    go_loopw [9, 25] (fun a i wr => ∃ k : Nat, k ≤ j ∧ i = .int .i64 k ∧ a = .int .i64 ((Rp.rowB (m.take k)).length : Int) ∧ Below w.heap.size w wr) (fun _ i _ => j - (intOf i).toNat)
    case atStart => exact ⟨0, Nat.zero_le _, rfl, by rw [List.take_zero, Rp.rowB_nil]; rfl, WB.out⟩
    case round =>
      obtain ⟨k, hk, rfl, rfl, hbr⟩ := hrel
      have HB := Lib.hid hbr
      clear hbr p0 p1 p2
      by_cases hlt' : k < j
      · obtain ⟨q, i, t1, t2, t3, t4, t5⟩ := HFR.out k (by have := HJ.out; omega)
        have V := VR.out ((Rp.rowB (m.take k)).length : Int) wr
        rw [rdAt_some (by rw [HFL.out]; exact t1) rfl] at V
        have Z := fun W : World => size_any (q : Int) W (by omega) (by omega)
        rw [sizeI_yes (by omega), t4] at Z
        have h1 := HLE.out k
        have h2 := HLE.out (k + 1)
        have h9 := HS9.out
        replace V := Lib.hid V
        replace Z := Lib.hid Z
        obtain ⟨x, hx⟩ : ∃ x : Nat, (Rp.rowB (m.take k)).length = x := ⟨_, rfl⟩
        obtain ⟨y, hy⟩ : ∃ y : Nat, (Rp.rowB (m.take (k + 1))).length = y := ⟨_, rfl⟩
        rw [hx] at V Z h1
        rw [hy] at Z h2
        have HY := Lib.hid hy
        have HWA : IntKind.i64.wrap ((x : Int) + ((y : Int) - (x : Int))) = (y : Int) := by
          rw [show (x : Int) + ((y : Int) - (x : Int)) = (y : Int) from by omega]
          exact IntWalk.i64_in _ ⟨by omega, by omega⟩
        have HWK : IntKind.i64.wrap ((k : Int) + 1) = (k : Int) + 1 := IntWalk.i64_in _ ⟨by omega, by have := HJ.out; omega⟩
        rw [hx]
        clear t1 t2 t3 t4 t5 h1 h2 h9 hx hy HW1
        have hki : (k : Int) < (j : Int) := by omega
        go_wp2_with fail
        refine V.out.mono ?_
        rintro e w2 ⟨rfl, nd, rfl⟩
        have HB2 := Lib.hid (HB.out.trans ((bel_drewN nd).mono HB.out.size))
        go_wp2_with fail
        refine (Z.out _).mono ?_
        rintro e w3 ⟨rfl, rfl⟩
        go_wp2_with fail
        go_roundw
        case rel => exact ⟨k + 1, by omega, by go_num, by rw [HY.out], HB2.out⟩
        case measure => simp [intOf]; omega
      · obtain rfl : k = j := by omega
        have h1 := HLE.out k
        obtain ⟨x, hx⟩ : ∃ x : Nat, (Rp.rowB (m.take k)).length = x := ⟨_, rfl⟩
        rw [hx] at h1
        have HX := Lib.hid hx
        rw [hx]
        have hki : ¬ (k : Int) < (k : Int) := by omega
        have h9 := HS9.out
        clear hx HW1
        go_wp2_with fail
        go_ret
        refine ⟨?_, HB.out⟩
        show Ending.returned (.string (s.extract x s.size)) = _
        rw [row_ext HFL.out HX.out]

end Go.Proofs.YthhhocgpoenigaaGreat.Sto

namespace Go.Proofs.YthhhocgpoenigaaGreat.Sto
open Go.RowKit Go.Proofs.YthhhocgpoenigaaGreat.So Go.Proofs.YthhhocgpoenigaaGreat.Dsk Go.Proofs.YthhhocgpoenigaaGreat.Rts

/-- The segment that holder finds, its records, and the place among them. -/
structure Held12 (S : St) (rs : List Rp.Rec) (i k j : Nat) (m : List Rp.Rec) : Prop where
  o : (i : Int) = (S.g.getD k Rt.zero).b + (j : Int)
  b : 0 ≤ (S.g.getD k Rt.zero).b ∧ (S.g.getD k Rt.zero).b ≤ 1152921504606846976
  d : dat S.d (segN (S.g.getD k Rt.zero).b) = some (Rp.rowB m)
  ok : ∀ r ∈ m, Rp.Ok r
  n : m.length ≤ rs.length
  le : j ≤ m.length
  dr : m.drop j = (rs.drop i).take (m.length - j)
  nx : k + 1 < S.g.length → (S.g.getD (k + 1) Rt.zero).b = (i : Int) + ((m.length - j : Nat) : Int)
  fin : k + 1 = S.g.length → i + (m.length - j) = rs.length
theorem At.held {q : Int} {S : St} {rs : List Rp.Rec} (h : Inv q S rs) (hl : rs.length ≤ 1000000) {i k : Nat} (hk : k < S.g.length) (h1 : (S.g.getD k Rt.zero).b ≤ (i : Int)) (h2 : (i : Int) ≤ (S.g.getD k Rt.zero).b + (S.g.getD k Rt.zero).n) :
    Held12 S rs i k (i - (S.g.getD k Rt.zero).b.toNat) ((rs.drop (S.g.getD k Rt.zero).b.toNat).take (S.g.getD k Rt.zero).n.toNat) := by
  have a := h.at_ hk
  have hb := a.b0
  have hn := a.n0
  have hle := a.le
  have hnx := a.nx
  have hfin := a.fin
  have hlen : ((rs.drop (S.g.getD k Rt.zero).b.toNat).take (S.g.getD k Rt.zero).n.toNat).length = (S.g.getD k Rt.zero).n.toNat := by
    rw [List.length_take, List.length_drop]; omega
  refine ⟨by omega, ⟨hb, by omega⟩, a.dat, fun r hr => h.ok r (List.mem_of_mem_drop (List.mem_of_mem_take hr)), by rw [hlen]; omega, by rw [hlen]; omega, ?_, fun e => ?_, fun e => ?_⟩
  · rw [hlen, List.drop_take, List.drop_drop]
    congr 2
    omega
  · rw [hlen, (hnx e).1]; omega
  · have := hfin e
    rw [hlen]; omega
theorem Hold.held {q : Int} {S : St} {rs : List Rp.Rec} (h : Inv q S rs) (hl : rs.length ≤ 1000000) {i k : Nat} (hi : i < rs.length) (hk : Hold S.g (i : Int) k) : ∃ j m, Held12 S rs i k j m ∧ j < m.length := by
  have a := h.at_ hk.lt
  have h1 : (S.g.getD k Rt.zero).b ≤ (i : Int) := by
    rcases hk.le with rfl | e
    · rw [h.base0.2.1]; omega
    · exact e
  have h2 : (i : Int) < (S.g.getD k Rt.zero).b + (S.g.getD k Rt.zero).n := by
    rcases Nat.lt_or_ge (k + 1) S.g.length with e | e
    · have := hk.up (k + 1) (by omega) e
      rw [(a.nx e).1] at this
      exact this
    · have := a.fin (by have := hk.lt; omega)
      omega
  refine ⟨_, _, At.held h hl hk.lt h1 (by omega), ?_⟩
  have hb := a.b0
  have hn := a.n0
  have hle := a.le
  rw [List.length_take, List.length_drop]
  omega

set_option maxRecDepth 100000 in
set_option maxHeartbeats 3200000 in
theorem read12_any (fa ga : Option Addr) (fn fc gn gc : Nat) (S : St) (q : Int) (rs : List Rp.Rec) (o : Int) (w : World) (hf : IsL FL w (.slice fa fn fc) S.d.f) (hg : IsL SL w (.slice ga gn gc) S.g) (hB : Stb S) (hI : Inv q S rs) (hl : rs.length ≤ 1000000) :
    Calls Tryz.prog 25 #[stVal (.slice fa fn fc) (.slice ga gn gc) S, .int .i64 o] w fun e w' => e = .returned (RdVal (readT S o)) ∧ Below w.heap.size w w' := by
  obtain ⟨g0, g1, gb, gs⟩ := boxes2 w (stCells (.slice fa fn fc) (.slice ga gn gc) S) #[.int .i64 0, .int .i64 0, .string ⟨#[]⟩] 31 57
  have GB := Lib.hid gb
  have G1 := Lib.hid g1
  have GS := Lib.hid (Array.getElem?_eq_some_iff.1 g1).1
  have hne : S.g ≠ [] := List.length_pos_iff.1 hI.base0.2.2
  have HX := hI.x
  by_cases hout : o < 0 ∨ S.x ≤ o
  · rw [read_lo hout]
    unfold stCells at G1 GB GS g0
    obtain ⟨⟨d0, d1, d2, d3, d4⟩, d5, d6, d7, d8, d9, d10⟩ := cellsS g0
    have key : o < 0 ∨ (¬ o < 0 ∧ S.x ≤ o) := by omega
    unfold stVal
    clear g0 g1 gb gs hf hg hB hI hl hne HX hout
    rcases key with key | ⟨key, key2⟩
    all_goals
      go_enter Tryz.func25, Tryz.ntmps25
      go_upto_region 1 with (fail)
      generalize World.alloc (World.alloc w _) _ = w0 at GB G1 GS d0 d1 d2 d3 d4 d5 d6 d7 d8 d9 d10 ⊢
      obtain ⟨y0, y1, y2⟩ := Dsk.cells3 G1.out
      obtain ⟨yf0, yf1, yf2⟩ := frozen3 G1.out
      go_wp2_with fail
      have Z := fun (x y z : Value) => heap_set3 G1.out x y z
      obtain ⟨z0, z1, z2⟩ := Dsk.cells3 (Z (.int .i64 0) (.int .i64 0) (.string ⟨#[]⟩))
      have BZ := Dsk.bel_st3 GB.out (Nat.le_succ w.heap.size) (.int .i64 0) (.int .i64 0) (.string ⟨#[]⟩)
      unfold set3 at z0 z1 z2 BZ
      refine bodyPost_ret (v := .tuple #[.agg #[.int .i64 0, .int .i64 0, .string ⟨#[]⟩], .int .i64 6]) (by simp [results, Tryz.results25, go_sem, z0, z1, z2]) rfl ?_
      exact ⟨rfl, BZ⟩
  · obtain ⟨i, rfl⟩ : ∃ i : Nat, o = (i : Int) := ⟨o.toNat, by omega⟩
    have hi : i < rs.length := by omega
    rw [hI.read (by omega) hi]
    have hr := hI.ok _ (List.getElem_mem hi)
    have FLO := Lib.hid fun (W : World) (h : IsL SL W (.slice ga gn gc) S.g) => floor12_any (.slice fa fn fc) (.slice ga gn gc) S W h hne
    rw [hI.base0.1] at FLO
    have HO := Lib.hid fun (W : World) (h : IsL SL W (.slice ga gn gc) S.g) => holder12_any (.slice ga gn gc) S.g (i : Int) W h hne (hB.n)
    have TL := Lib.hid fun (k : Nat) (hk : Hold S.g (i : Int) k) => (show ∃ rest, (Fr.fr (Rp.body rs[i]) ++ rest).length ≤ 100000000 ∧ ∀ W, IsL FL W (.slice fa fn fc) S.d.f → Calls Tryz.prog 58 #[dkVal (.slice fa fn fc) S.d, .agg #[.int .i64 (S.g.getD k Rt.zero).b, .int .i64 (S.g.getD k Rt.zero).n, .int .i64 (S.g.getD k Rt.zero).z], .int .i64 (i : Int)] W fun e w' => e = .returned (.string ⟨(Fr.fr (Rp.body rs[i]) ++ rest).toArray⟩) ∧ Below W.heap.size W w' from by
      obtain ⟨j, m, hh, hj⟩ := hk.held hI hl hi
      have hd : m.drop j = rs[i] :: m.drop (j + 1) := by
        rw [List.drop_eq_getElem_cons hj]
        congr 1
        have e := congrArg (fun l => l[0]?) hh.dr
        simp only [List.getElem?_drop, Nat.add_zero] at e
        rw [List.getElem?_take_of_lt (by omega), List.getElem?_drop, Nat.add_zero, List.getElem?_eq_getElem hj, List.getElem?_eq_getElem hi] at e
        injection e
      refine ⟨Rp.rowB (m.drop (j + 1)), ?_, fun W h => ?_⟩
      · have h1 := Rp.rowB_le m hh.ok
        have h2 := congrArg List.length (row_drop m j)
        rw [hd, Rp.rowB_cons, List.length_drop] at h2
        have := hh.n
        omega
      · have C := tail12_any fa fn fc S.d (S.g.getD k Rt.zero).b (S.g.getD k Rt.zero).n (S.g.getD k Rt.zero).z m j W h hB.d hh.ok hh.b hh.d hh.le (by have := hh.n; omega)
        rw [← hh.o, hd, Rp.rowB_cons] at C
        exact C)
    have NX := Lib.hid fun (rest : List UInt8) (W : World) (hz : (Fr.fr (Rp.body rs[i]) ++ rest).length ≤ 100000000) => (show Calls Tryz.prog 57 #[.string ⟨(Fr.fr (Rp.body rs[i]) ++ rest).toArray⟩, .int .i64 0] W fun e w' => e = .returned (.tuple #[.string ⟨(Rp.body rs[i]).toArray⟩, .int .i64 (((Fr.fr (Rp.body rs[i])).length : Nat) : Int), .int .i64 0]) ∧ Below W.heap.size W w' from by
      have C := fnext_any ⟨(Fr.fr (Rp.body rs[i]) ++ rest).toArray⟩ 0 W (by rw [size_mk_list]; omega)
      have e : nxAt ⟨(Fr.fr (Rp.body rs[i]) ++ rest).toArray⟩ 0 = .tuple #[.string ⟨(Rp.body rs[i]).toArray⟩, .int .i64 (((Fr.fr (Rp.body rs[i])).length : Nat) : Int), .int .i64 0] := by
        have := nxVal_yes (s := ⟨(Fr.fr (Rp.body rs[i]) ++ rest).toArray⟩) (k := 0) (j := (Fr.fr (Rp.body rs[i])).length) (b := Rp.body rs[i]) (by show Fr.nx ((Fr.fr (Rp.body rs[i]) ++ rest).drop 0) = _; rw [List.drop_zero]; exact Fr.nx_fr _ _ (Rp.body_may hr))
        rw [Nat.zero_add] at this
        exact this
      rw [e] at C
      exact C)
    have GT := Lib.hid fun (W : World) => (show Calls Tryz.prog 60 #[.string ⟨(Rp.body rs[i]).toArray⟩] W fun e w' => e = .returned (.tuple #[recVal rs[i], .int .i64 0]) ∧ Below W.heap.size W w' from by
      have C := get_any ⟨(Rp.body rs[i]).toArray⟩ W (by rw [size_mk_list]; have := Rp.body_le hr; omega)
      unfold getVal at C
      rw [show (⟨(Rp.body rs[i]).toArray⟩ : ByteArray).data.toList = Rp.body rs[i] from rfl, Rp.get_body hr] at C
      exact C)
    have HF := Lib.hid hf
    have HG := Lib.hid hg
    have HGK := Lib.hid fun (k : Nat) (hk : Hold S.g (i : Int) k) => (show k < gn from by rw [hg.len.1]; exact hk.lt)
    unfold stCells at G1 GB GS g0
    have G0 := Lib.hid g0
    unfold stVal RdVal
    unfold stVal at FLO
    unfold dkVal at TL
    have hlo : ¬ (i : Int) < 0 := by omega
    have hhi : ¬ S.x ≤ (i : Int) := by omega
    generalize Fr.fr (Rp.body rs[i]) = F at *
    generalize Rp.body rs[i] = B at *
    generalize rs[i] = r at *
    obtain ⟨⟨d0, d1, d2, d3, d4⟩, d5, d6, d7, d8, d9, d10⟩ := cellsS g0
    clear g0 g1 gb gs hf hg hB hI hl hne HX hout hr hi
    go_enter Tryz.func25, Tryz.ntmps25
    go_wp2_with fail
    generalize World.alloc (World.alloc w _) _ = w0 at GB G0 G1 GS ⊢
    refine (FLO.out _ (HG.out.keep GB.out)).mono ?_
    rintro e w1 ⟨rfl, b1⟩
    have P0 := Lib.hid (hkeep G0.out b1)
    have P1 := Lib.hid (hkeep G1.out b1)
    have PB := Lib.hid (GB.out.trans (b1.mono GB.out.size))
    have PG := Lib.hid (HG.out.keep PB.out)
    have PF := Lib.hid (HF.out.keep PB.out)
    have hs1 : w.heap.size + 1 < w1.heap.size := Nat.lt_of_lt_of_le GS.out b1.size
    have hs0 : w.heap.size < w1.heap.size := by omega
    clear d0 d1 d2 d3 d4 d5 d6 d7 d8 d9 d10 b1
    obtain ⟨⟨d0, d1, d2, d3, d4⟩, d5, d6, d7, d8, d9, d10⟩ := cellsS P0.out
    go_upto_region 5 with (fail)
    go_cut [6, 8] (fun v e wc => v = .string ⟨B.toArray⟩ ∧ e = .int .i64 0 ∧ Below w1.heap.size w1 wc)
    case first =>
      have CG := Lib.hid fun (k : Nat) (hk : k < gn) => sg_at PG.out hk
      go_region_held3 (fun W => (∀ b o, b < w1.heap.size → W.cell? ⟨b, o, none⟩ = w1.cell? ⟨b, o, none⟩) ∧ Below w1.heap.size w1 W) (first | with_reducible assumption | with_reducible exact KW.dr _ | with_reducible exact KW.keep (by assumption) (Below.refl _ _).drew | with_reducible exact KW.keep (by assumption) (by assumption)) (first | (go_at_call 59; refine (HO.out _ (PG.out.keep (KW.bel (by assumption)))).mono ?_; rintro e w5 ⟨k, rfl, hk, q5⟩; have s5 := KW.keep (by assumption) q5; have hkn := HGK.out k hk; obtain ⟨gbk, goff, rfl, cg0, cg1, cg2⟩ := CG.out k hkn; have hgb := block_lt_of_cell cg0; obtain ⟨rest, hz, TLk⟩ := TL.out k hk; have TLk := Lib.hid TLk) | (go_at_call 58; refine (TLk.out _ (PF.out.keep (KW.bel (by assumption)))).mono ?_; rintro e w5 ⟨rfl, q5⟩; have s5 := KW.keep (by assumption) q5) | (go_at_call 57; refine (NX.out _ _ (by assumption)).mono ?_; rintro e w5 ⟨rfl, q5⟩; have s5 := KW.keep (by assumption) q5))
      all_goals
        rename_i hh
        have LB := Lib.hid (KW.bel hh)
        clear hh
        go_wp2_with fail
        go_meet
        case rel => exact ⟨rfl, rfl, LB.out⟩
    case rest =>
      obtain ⟨rfl, rfl, hbw⟩ := hcut
      have WB := Lib.hid (PB.out.trans (hbw.mono PB.out.size))
      have P1' := Lib.hid (hkeep P1.out hbw)
      clear hbw d0 d1 d2 d3 d4 d5 d6 d7 d8 d9 d10 P1 P0
      unfold recVal at GT
      go_wp2_with fail
      refine (GT.out _).mono ?_
      rintro e w2 ⟨rfl, b2⟩
      have P2 := Lib.hid (hkeep P1'.out b2)
      have WB2 := Lib.hid (WB.out.trans (b2.mono WB.out.size))
      obtain ⟨y0, y1, y2⟩ := Dsk.cells3 P2.out
      obtain ⟨yf0, yf1, yf2⟩ := frozen3 P2.out
      clear b2
      go_wp2_with fail
      have Z := fun (x y z : Value) => heap_set3 P2.out x y z
      obtain ⟨z0, z1, z2⟩ := Dsk.cells3 (Z (.int .i64 r.a) (.int .i64 r.t) (.string r.d))
      have BZ := Dsk.bel_st3 WB2.out (Nat.le_succ w.heap.size) (.int .i64 r.a) (.int .i64 r.t) (.string r.d)
      unfold set3 at z0 z1 z2 BZ
      refine bodyPost_ret (v := .tuple #[.agg #[.int .i64 r.a, .int .i64 r.t, .string r.d], .int .i64 0]) (by simp [results, Tryz.results25, go_sem, z0, z1, z2]) rfl ?_
      exact ⟨rfl, BZ⟩

end Go.Proofs.YthhhocgpoenigaaGreat.Sto

namespace Go.Proofs.YthhhocgpoenigaaGreat.Sto
open Go.RowKit Go.Proofs.YthhhocgpoenigaaGreat.So Go.Proofs.YthhhocgpoenigaaGreat.Dsk Go.Proofs.YthhhocgpoenigaaGreat.Rts

theorem fromF_fit {q : Int} {S : St} {rs : List Rp.Rec} (h : Inv q S rs) (hl : rs.length ≤ 1099511627776) (B M : Int) : ∀ (j k len : Nat) (n : Int), k + j ≤ rs.length → 0 ≤ n → n ≤ B →
    fromF S B M j (k : Int) n len = (fit (B - n).toNat ((rs.drop k).take j)).take (M - len).toNat
  | 0, k, len, n, _, _, _ => by rw [List.take_zero, fit_nil, List.take_nil]; rfl
  | j + 1, k, len, n, hk, h0, h1 => by
    have hi : k < rs.length := by omega
    have hok := h.ok _ (List.getElem_mem hi)
    rw [fromF_succ, h.read hl hi, Rp.putB_yes (Rp.fault_zero hok), List.drop_eq_getElem_cons hi, List.take_succ_cons]
    by_cases hm : (len : Int) < M
    · rw [if_pos hm]
      by_cases hb : B < n + ((Fr.fr (Rp.body rs[k])).length : Int)
      · rw [if_pos hb, fit_no (by omega), List.take_nil]
      · rw [if_neg hb, fit_yes (by omega), show (M - (len : Int)).toNat = (M - ((len + 1 : Nat) : Int)).toNat + 1 from by omega, List.take_succ_cons]
        have := fromF_fit h hl B M j (k + 1) (len + 1) (n + ((Fr.fr (Rp.body rs[k])).length : Int)) (by omega) (by omega) (by omega)
        rw [show ((k + 1 : Nat) : Int) = (k : Int) + 1 from by omega] at this
        rw [this]
        congr 3
        omega
    · rw [if_neg hm, show (M - (len : Int)).toNat = 0 from by omega, List.take_zero]
theorem fromT_fit {q : Int} {S : St} {rs : List Rp.Rec} (h : Inv q S rs) (hl : rs.length ≤ 1099511627776) {o : Nat} (B M : Int) (hB : 0 ≤ B) (ho : (o : Int) < S.s) :
    fromT S (o : Int) B M = (fit B.toNat (rs.drop o)).take (min M (S.s - o)).toNat := by
  have hx := h.x
  have h1 := h.s1
  unfold fromT
  rw [h.base0.1, if_neg (by omega), fromF_fit h hl B M _ o 0 0 (by omega) (Int.le_refl _) hB, fit_take, List.take_take]
  congr 2
  · omega
  · omega
theorem fromT_lo {S : St} {o B M : Int} (ho : o < floor S ∨ S.s ≤ o ∨ M < 1) : fromT S o B M = [] := by
  unfold fromT
  by_cases h1 : o < floor S
  · rw [if_pos h1]
  · rw [if_neg h1]
    rcases ho with ho | ho | ho
    · exact absurd ho h1
    · rw [show (S.s - o).toNat = 0 from by omega]; rfl
    · cases (S.s - o).toNat with
      | zero => rfl
      | succ j => rw [fromF_succ, if_neg (by omega)]
/-- The loop's ways out. -/
theorem from_enough {L : List Rp.Rec} {B p W : Nat} (hb : (Rp.rowB (L.take p)).length ≤ B) (hp : W ≤ p) : (fit B L).take W = (L.take p).take W := by
  have h := fit_take L B p
  rw [fit_all _ _ hb] at h
  rw [h, List.take_take, Nat.min_eq_left hp]
theorem from_stop {L m m' : List Rp.Rec} {B p : Nat} (hb : (Rp.rowB (L.take p)).length ≤ B) (hL : L.drop p = m ++ m') (hs : B - (Rp.rowB (L.take p)).length < (Rp.rowB m).length) : fit B L = L.take p ++ fit (B - (Rp.rowB (L.take p)).length) m := by
  conv => lhs; rw [← List.take_append_drop p L, hL]
  rw [fit_join _ _ _ hb, fit_stop _ _ _ hs]

end Go.Proofs.YthhhocgpoenigaaGreat.Sto

namespace Go.Proofs.YthhhocgpoenigaaGreat
open Go.RowKit

theorem heap_old {W : World} {k : Nat} {x : Obj} (o : Obj) (h : W.heap[k]? = some x) : (W.alloc o).heap[k]? = some x := (Below.heap_alloc _ _ _ (Array.getElem?_eq_some_iff.1 h).1).trans h

namespace Gp
/-- What stands at place k, of offset b. -/
def fd (l : List UInt8) (b : Int) (k : Nat) : Rp.Rec × Nat × Int :=
  if (Rp.nxt (l.drop k)).2.2 = 0 then (if (Rp.nxt (l.drop k)).1.a = b then ((Rp.nxt (l.drop k)).1, k + (Rp.nxt (l.drop k)).2.1, 0) else (Rp.zero, 0, 3)) else (Rp.zero, 0, (Rp.nxt (l.drop k)).2.2)
theorem fd_no {l : List UInt8} {b : Int} {k : Nat} {e : Int} (h : Rp.nxt (l.drop k) = (Rp.zero, 0, e)) (he : e ≠ 0) : fd l b k = (Rp.zero, 0, e) := by unfold fd; rw [h]; dsimp only; rw [if_neg he]
theorem fd_form {l : List UInt8} {b : Int} {k j : Nat} {r : Rp.Rec} (h : Rp.nxt (l.drop k) = (r, j, 0)) (ha : r.a ≠ b) : fd l b k = (Rp.zero, 0, 3) := by unfold fd; rw [h]; dsimp only; rw [if_pos rfl, if_neg ha]
theorem fd_yes {l : List UInt8} {b : Int} {k j : Nat} {r : Rp.Rec} (h : Rp.nxt (l.drop k) = (r, j, 0)) (ha : r.a = b) : fd l b k = (r, k + j, 0) := by unfold fd; rw [h]; dsimp only; rw [if_pos rfl, if_pos ha]
end Gp
def fdVal (x : Rp.Rec × Nat × Int) : Value := .tuple #[.agg #[.int .i64 x.1.a, .int .i64 x.1.t, .string x.1.d], .int .i64 (x.2.1 : Int), .int .i64 x.2.2]
theorem fdVal_no {l : List UInt8} {b : Int} {k : Nat} {e : Int} (h : Gp.fd l b k = (Rp.zero, 0, e)) : fdVal (Gp.fd l b k) = .tuple #[.agg #[.int .i64 0, .int .i64 0, .string ⟨#[]⟩], .int .i64 0, .int .i64 e] := by rw [h]; rfl

theorem maybe9_any (b : Int) (w : World) : Calls Tryz.prog 107 #[.int .i64 b] w fun e w' => e = .returned (.bool (Rp.inB b)) ∧ w = w' := by
  by_cases h0 : b < 0
  · rw [Rp.inB_no (.inl h0)]
    have e1 : decide (0 ≤ b) = false := by simp; omega
    go_enter Tryz.func107, Tryz.ntmps107
    go_wp2_with fail
    go_ret
    all_goals first | exact ⟨rfl, rfl⟩ | simp_all
  · by_cases h1 : b ≤ 1099511627776
    · rw [Rp.inB_mk (by omega) h1]
      have e1 : decide (0 ≤ b) = true := by simp; omega
      have e2 : decide (b ≤ 1099511627776) = true := by simp; omega
      go_enter Tryz.func107, Tryz.ntmps107
      go_wp2_with fail
      go_ret
      all_goals first | exact ⟨rfl, rfl⟩ | simp_all
    · rw [Rp.inB_no (.inr (by omega))]
      have e1 : decide (0 ≤ b) = true := by simp; omega
      have e2 : decide (b ≤ 1099511627776) = false := by simp; omega
      go_enter Tryz.func107, Tryz.ntmps107
      go_wp2_with fail
      go_ret
      all_goals first | exact ⟨rfl, rfl⟩ | simp_all

set_option maxRecDepth 100000 in
set_option maxHeartbeats 3200000 in
theorem next9_any (s : ByteArray) (k : Nat) (b : Int) (w : World) (hs : s.size ≤ 140737488351232) :
    Calls Tryz.prog 109 #[.string s, .int .i64 (k : Int), .int .i64 b] w fun e w' => e = .returned (fdVal (Gp.fd s.data.toList b k)) ∧ Below w.heap.size w w' := by
  have C := fun W : World => fnext_any s (k : Int) W hs
  rw [nxAt_in] at C
  have HA := Lib.hid ((Below.refl w.heap.size w).alloc (Nat.le_refl _) (.cells #[.int .i64 0, .int .i64 0, .string ⟨#[]⟩] 57))
  have G0 := Lib.hid (heap_alloc_new w (.cells #[.int .i64 0, .int .i64 0, .string ⟨#[]⟩] 57))
  rcases Fr.nx_cases (s.data.toList.drop k) with ⟨er, he, h3⟩ | ⟨j, bd, he, h5, h6, h7, h8⟩
  · rw [nxVal_no he (by omega)] at C
    have HV := Lib.hid (fdVal_no (Gp.fd_no (b := b) (Rp.nxt_no he (by omega)) (by omega)))
    replace C := Lib.hid C
    clear he
    rcases h3 with rfl | rfl | rfl
    all_goals
      go_enter Tryz.func109, Tryz.ntmps109
      go_wp2_with fail
      generalize World.alloc w _ = w0 at HA G0 ⊢
      refine (C.out _).mono ?_
      rintro e w1 ⟨rfl, b1⟩
      have HB := Lib.hid (HA.out.trans (b1.mono HA.out.size))
      have G1 := Lib.hid ((b1.block w.heap.size (Array.getElem?_eq_some_iff.1 G0.out).1).trans G0.out)
      have hwl := (Array.getElem?_eq_some_iff.1 G1.out).1
      obtain ⟨f0, f1, f2⟩ := frozenK G1.out
      obtain ⟨z0, z1, z2⟩ := cells3 G1.out
      clear b1 G0 HA
      go_wp2_with fail
      refine bodyPost_ret (v := .tuple #[.agg #[.int .i64 0, .int .i64 0, .string ⟨#[]⟩], .int .i64 0, .int .i64 _]) (by simp [results, Tryz.results109, go_sem, z0, z1, z2]; rfl) rfl ?_
      exact ⟨by rw [HV.out]; rfl, bel_st3 HB.out (Nat.le_refl _) _ _ _⟩
  · rw [nxVal_yes he] at C
    obtain ⟨q, hq⟩ : ∃ q, k + j = q := ⟨_, rfl⟩
    rw [hq] at C
    replace C := Lib.hid C
    have hbl : bd.length ≤ 9223372036854775807 := by have := h7.2; omega
    have D := fun W : World => get_any ⟨bd.toArray⟩ W (by rw [size_mk_list]; exact hbl)
    rw [show (⟨bd.toArray⟩ : ByteArray).data.toList = bd from rfl] at D
    rcases Rp.get_cases bd with ⟨er, hg, h3⟩ | ⟨r, hg, hok, hbd⟩
    · rw [getVal_no hg] at D
      have HV := Lib.hid (fdVal_no (Gp.fd_no (b := b) (Rp.nxt_bad he hg (by omega)) (by omega)))
      replace D := Lib.hid D
      clear he hg h5 h6 h7 h8 hq hbl
      rcases h3 with rfl | rfl | rfl
      all_goals
        go_enter Tryz.func109, Tryz.ntmps109
        go_wp2_with fail
        generalize World.alloc w _ = w0 at HA G0 ⊢
        refine (C.out _).mono ?_
        rintro e w1 ⟨rfl, b1⟩
        go_wp2_with fail
        refine (D.out _).mono ?_
        rintro e w2 ⟨rfl, b2⟩
        have HB12 := Lib.hid (bel_trans2 b1 b2)
        have HB := Lib.hid ((HA.out.trans (HB12.out.mono HA.out.size)).alloc (by have := HA.out.size; have := HB12.out.size; omega) (.cells #[.int .i64 0, .int .i64 0, .string ⟨#[]⟩] 57))
        have G1 := Lib.hid (heap_old (.cells #[.int .i64 0, .int .i64 0, .string ⟨#[]⟩] 57) ((HB12.out.block w.heap.size (Array.getElem?_eq_some_iff.1 G0.out).1).trans G0.out))
        have hwl := (Array.getElem?_eq_some_iff.1 G1.out).1
        obtain ⟨f0, f1, f2⟩ := frozenK G1.out
        obtain ⟨z0, z1, z2⟩ := cells3 G1.out
        clear b1 b2 G0 HA
        go_wp2_with fail
        refine bodyPost_ret (v := .tuple #[.agg #[.int .i64 0, .int .i64 0, .string ⟨#[]⟩], .int .i64 0, .int .i64 _]) (by simp [results, Tryz.results109, go_sem, z0, z1, z2]; rfl) rfl ?_
        exact ⟨by rw [HV.out], bel_st3 HB.out (Nat.le_refl _) _ _ _⟩
    · rw [getVal_yes hg] at D
      have hnx := Rp.nxt_yes he hg
      have HV := Lib.hid (show (r.a = b → fdVal (Gp.fd s.data.toList b k) = .tuple #[.agg #[.int .i64 b, .int .i64 r.t, .string r.d], .int .i64 (q : Int), .int .i64 0]) ∧ (r.a ≠ b → fdVal (Gp.fd s.data.toList b k) = .tuple #[.agg #[.int .i64 0, .int .i64 0, .string ⟨#[]⟩], .int .i64 0, .int .i64 3]) from
        ⟨fun h => by rw [Gp.fd_yes hnx h, hq]; subst h; rfl, fun h => fdVal_no (Gp.fd_form hnx h)⟩)
      unfold recVal at D
      replace D := Lib.hid D
      clear he hg hok hnx h5 h6 h7 h8 hq hbl hbd
      generalize fdVal (Gp.fd s.data.toList b k) = V at *
      by_cases ha : r.a = b
      · have HV2 := Lib.hid (HV.out.1 ha)
        have hae : (r.a != b) = false := by simpa using ha
        clear HV
        obtain ⟨ra, rt, rd⟩ := r
        dsimp only at ha HV2 D hae
        subst ha
        go_enter Tryz.func109, Tryz.ntmps109
        go_wp2_with fail
        generalize World.alloc w _ = w0 at HA G0 ⊢
        refine (C.out _).mono ?_
        rintro e w1 ⟨rfl, b1⟩
        go_wp2_with fail
        refine (D.out _).mono ?_
        rintro e w2 ⟨rfl, b2⟩
        have HB12 := Lib.hid (bel_trans2 b1 b2)
        have HB := Lib.hid ((HA.out.trans (HB12.out.mono HA.out.size)).alloc (by have := HA.out.size; have := HB12.out.size; omega) (.cells #[.int .i64 ra, .int .i64 rt, .string rd] 57))
        have G1 := Lib.hid (heap_old (.cells #[.int .i64 ra, .int .i64 rt, .string rd] 57) ((HB12.out.block w.heap.size (Array.getElem?_eq_some_iff.1 G0.out).1).trans G0.out))
        have hwl := (Array.getElem?_eq_some_iff.1 G1.out).1
        obtain ⟨f0, f1, f2⟩ := frozenK G1.out
        obtain ⟨z0, z1, z2⟩ := cells3 G1.out
        clear b1 b2 G0 HA
        go_wp2_with fail
        refine bodyPost_ret (v := .tuple #[.agg #[.int .i64 ra, .int .i64 rt, .string rd], .int .i64 q, .int .i64 0]) (by simp [results, Tryz.results109, go_sem, z0, z1, z2]) rfl ?_
        exact ⟨by rw [HV2.out], bel_st3 HB.out (Nat.le_refl _) _ _ _⟩
      · have HV2 := Lib.hid (HV.out.2 ha)
        have hae : (r.a != b) = true := by simpa using ha
        clear HV
        obtain ⟨ra, rt, rd⟩ := r
        dsimp only at ha HV2 D hae
        go_enter Tryz.func109, Tryz.ntmps109
        go_wp2_with fail
        generalize World.alloc w _ = w0 at HA G0 ⊢
        refine (C.out _).mono ?_
        rintro e w1 ⟨rfl, b1⟩
        go_wp2_with fail
        refine (D.out _).mono ?_
        rintro e w2 ⟨rfl, b2⟩
        have HB12 := Lib.hid (bel_trans2 b1 b2)
        have HB := Lib.hid ((HA.out.trans (HB12.out.mono HA.out.size)).alloc (by have := HA.out.size; have := HB12.out.size; omega) (.cells #[.int .i64 ra, .int .i64 rt, .string rd] 57))
        have G1 := Lib.hid (heap_old (.cells #[.int .i64 ra, .int .i64 rt, .string rd] 57) ((HB12.out.block w.heap.size (Array.getElem?_eq_some_iff.1 G0.out).1).trans G0.out))
        have hwl := (Array.getElem?_eq_some_iff.1 G1.out).1
        obtain ⟨f0, f1, f2⟩ := frozenK G1.out
        obtain ⟨z0, z1, z2⟩ := cells3 G1.out
        clear b1 b2 G0 HA
        go_wp2_with fail
        refine bodyPost_ret (v := .tuple #[.agg #[.int .i64 0, .int .i64 0, .string ⟨#[]⟩], .int .i64 0, .int .i64 3]) (by simp [results, Tryz.results109, go_sem, z0, z1, z2]) rfl ?_
        exact ⟨by rw [HV2.out], bel_st3 HB.out (Nat.le_refl _) _ _ _⟩

end Go.Proofs.YthhhocgpoenigaaGreat

namespace Go.Proofs.YthhhocgpoenigaaGreat
open Go.RowKit Go.Shelf Go.Proofs.YthhhocgpoenigaaGreat.Mks

attribute [local go_sem] Oper.semAt_some

namespace Gp
/-- What may be handed to a loop: a record of an offset from b on, and a place. -/
def ItOk (b : Int) (x : Rp.Rec × Nat) : Prop := Rp.Ok x.1 ∧ x.2 ≤ 140737488351232 ∧ b ≤ x.1.a
abbrev It (b : Int) := { x : Rp.Rec × Nat // ItOk b x }
/-- The places behind, of records with their places. -/
inductive Zp (b : Int) (k0 : Nat) : List (It b) → List (Rp.Rec × Nat) → Nat → Prop
  | nil : Zp b k0 [] [] k0
  | snoc {xs : List (It b)} {ps : List (Rp.Rec × Nat)} {k : Nat} (x : It b) : Zp b k0 xs ps k → x.1.1.a = b + ps.length → Zp b k0 (xs ++ [x]) (ps ++ [(x.1.1, k)]) x.1.2
theorem Zp.len {b : Int} {k0 k : Nat} {xs : List (It b)} {ps : List (Rp.Rec × Nat)} (h : Zp b k0 xs ps k) : xs.length = ps.length := by
  induction h with
  | nil => rfl
  | snoc x h _ ih => simp [ih]
theorem Zp.recs {b : Int} {k0 k : Nat} {xs : List (It b)} {ps : List (Rp.Rec × Nat)} (h : Zp b k0 xs ps k) : xs.map (fun x => x.1.1) = ps.map Prod.fst := by
  induction h with
  | nil => rfl
  | snoc x h _ ih => simp [ih]
/-- The place behind the last one. -/
def lastAt {b : Int} (k0 : Nat) (xs : List (It b)) : Nat := xs.foldl (fun _ x => x.1.2) k0
theorem Zp.last {b : Int} {k0 k : Nat} {xs : List (It b)} {ps : List (Rp.Rec × Nat)} (h : Zp b k0 xs ps k) : lastAt k0 xs = k := by
  cases h with
  | nil => rfl
  | snoc x h _ => simp [lastAt]
theorem lastAt_snoc {b : Int} (k0 : Nat) (xs : List (It b)) (x : It b) : lastAt k0 (xs ++ [x]) = x.1.2 := by simp [lastAt]
/-- All have come. -/
def AllCame (l : List UInt8) (b : Int) (k0 : Nat) (xs : List (It b)) : Prop := ∃ ps k e, pls (l.drop k0) b k0 = (ps, k, e) ∧ Good l b k0 ps k ∧ Zp b k0 xs ps k ∧ (fd l (b + ps.length) k).2.2 ≠ 0 ∧ (k < l.length → e = (fd l (b + ps.length) k).2.2) ∧ (l.length ≤ k → e = 0)
/-- The first ones have come. -/
def SomeCame (l : List UInt8) (b : Int) (k0 : Nat) (xs : List (It b)) : Prop := ∃ ps k, PRel l b k0 ps k ∧ Good l b k0 ps k ∧ Zp b k0 xs ps k
theorem fd_cases (l : List UInt8) (b : Int) (k : Nat) : (∃ e, fd l b k = (Rp.zero, 0, e) ∧ e ≠ 0 ∧ 0 ≤ e ∧ e ≤ 6 ∧ (k < l.length → (Rp.nxt (l.drop k) = (Rp.zero, 0, e) ∨ ∃ r j, Rp.nxt (l.drop k) = (r, j, 0) ∧ r.a ≠ b ∧ e = 3))) ∨
    ∃ r j, fd l b k = (r, k + j, 0) ∧ Rp.nxt (l.drop k) = (r, j, 0) ∧ r.a = b ∧ Rp.Ok r ∧ 7 ≤ j ∧ j ≤ (l.drop k).length := by
  rcases Rp.nxt_cases (l.drop k) with ⟨e, he, h3⟩ | ⟨r, j, he, hok, h5, h6, _⟩
  · exact .inl ⟨e, fd_no he (by omega), by omega, by omega, by omega, fun _ => .inl he⟩
  · by_cases ha : r.a = b
    · exact .inr ⟨r, j, fd_yes he ha, he, ha, hok, h5, h6⟩
    · exact .inl ⟨3, fd_form he ha, by decide, by decide, by decide, fun _ => .inr ⟨r, j, he, ha, rfl⟩⟩
theorem all_came {l : List UInt8} {b : Int} {k0 k : Nat} {xs : List (It b)} {ps : List (Rp.Rec × Nat)} {e : Int} (hr : PRel l b k0 ps k) (hg : Good l b k0 ps k) (hz : Zp b k0 xs ps k)
    (he : fd l (b + ps.length) k = (Rp.zero, 0, e)) (h0 : e ≠ 0) (h : k < l.length → (Rp.nxt (l.drop k) = (Rp.zero, 0, e) ∨ ∃ r j, Rp.nxt (l.drop k) = (r, j, 0) ∧ r.a ≠ b + ps.length ∧ e = 3)) : AllCame l b k0 xs := by
  by_cases hk : k < l.length
  · rcases h hk with h1 | ⟨r, j, h1, h2, rfl⟩
    · exact ⟨ps, k, e, hr.stop hk h1 h0, hg, hz, by rw [he]; exact h0, fun _ => by rw [he], fun h => absurd hk (by omega)⟩
    · exact ⟨ps, k, 3, hr.form hk h1 h2, hg, hz, by rw [he]; exact h0, fun _ => by rw [he], fun h => absurd hk (by omega)⟩
  · exact ⟨ps, k, 0, hr.done (by omega), hg, hz, by rw [he]; exact h0, fun h => absurd h hk, fun _ => rfl⟩
end Gp
open Gp

/-- How an item is handed over. -/
def itVals {b : Int} (x : It b) : Array Value := #[.agg #[.int .i64 x.1.1.a, .int .i64 x.1.1.t, .string x.1.1.d], .int .i64 (x.1.2 : Int)]

theorem grown_of_below {w w' : World} (h : Below w.heap.size w w') : w.grownBy w' none := ⟨h.os, h.tape, h.output, h.size, fun k hk _ => h.block k hk⟩

/-- What a round keeps: block C. -/
def KpC (C : Nat) (A B : World) : Prop := ∀ o : Obj, A.heap[C]? = some o → B.heap[C]? = some o
theorem kpC_t {C : Nat} {X Y Z : World} (h : KpC C X Y) (k : KpC C Y Z) : KpC C X Z := fun o ho => k o (h o ho)
theorem kpC_b {C n : Nat} (hC : C < n) (W : World) (l : Nat) (o o' : Obj) (hl : n ≤ l) (_ : W.heap[l]? = some o) (_ : o.isCells = false) (_ : o.isWalk = false) : KpC C W (W.putObj l o') :=
  fun x hx => (World.putObj_heap_other (by omega)).trans hx
theorem kpC_below {C : Nat} {A B : World} (h : Below A.heap.size A B) : KpC C A B := fun _ ho => (h.block C (Array.getElem?_eq_some_iff.1 ho).1).trans ho
theorem cell_row1 {W : World} {k : Nat} {v : Value} {T : TypeId} (h : W.heap[k]? = some (.cells #[v] T (0, 0))) : W.cell? ⟨k, 0, none⟩ = some v := by rw [cell_of_row _ _ 0 _ _ _ h]; rfl

set_option maxRecDepth 100000 in
set_option maxHeartbeats 1600000 in
theorem iter9_in (s : ByteArray) (b : Int) (k0 A O C l : Nat) (n : Nat) (TC : TypeId) (hn : 1 ≤ n) (hs : s.size ≤ 4398046511104) (hb0 : 0 ≤ b) (hb1 : b ≤ 1099511627776) (hk0 : k0 ≤ s.size)
    (J Jx : List (It b) → World → Prop) (W : World) (hJ : AbidesFrom W.heap.size J)
    (hY : ∀ pre x W1, J pre W1 → pre.length < s.size + 1 → YieldAt Fence.wide (n - 1) Tryz.prog l (itVals x) W1 fun e W' =>
      (e = .returned (.bool true) ∧ J (pre ++ [x]) W' ∧ KpC C W1 W') ∨ (e = .returned (.bool false) ∧ Jx (pre ++ [x]) W'))
    (cA : W.cell? ⟨A, 0, none⟩ = some (.int .i64 (k0 : Int))) (cO : W.cell? ⟨O, 0, none⟩ = some (.int .i64 b)) (gC : W.heap[C]? = some (.cells #[.string s] TC (0, 0))) (h0 : J [] W) :
    CallsIn Fence.wide n Tryz.prog 134 #[.func (.yield l) #[] #[], .pointer (some ⟨A, 0, none⟩), .pointer (some ⟨O, 0, none⟩), .pointer (some ⟨C, 0, none⟩)] W fun e W' => (∃ v, e = .returned v) ∧
      ((∃ ys, AllCame s.data.toList b k0 ys ∧ J ys W') ∨ (∃ pre, SomeCame s.data.toList b k0 pre ∧ Jx pre W')) := by
  have HJ := Lib.hid hJ
  have HY := Lib.hid hY
  have HL := Lib.hid (show s.data.toList.length = s.size from rfl)
  clear hJ hY
  refine callsIn_of_wp Tryz.func134 rfl trivial ?_ rfl
  simp only [Tryz.ntmps134, List.size_toArray, List.length_cons, List.length_nil, Nat.reduceAdd, Nat.reduceSub, Array.replicate_succ, Array.replicate_zero, List.push_toArray, List.append_toArray, List.nil_append, List.cons_append]
  gi_wp2
  gi_region
  all_goals gi_wp2
  gi_loopw [5, 6] (fun p q wr => ∃ (pre : List (It b)) (ps : List (Rp.Rec × Nat)) (k : Nat), p = .int .i64 (k : Int) ∧ q = .int .i64 (b + (ps.length : Int)) ∧ J pre wr ∧ wr.heap[C]? = some (.cells #[.string s] TC (0, 0)) ∧ Gp.PRel s.data.toList b k0 ps k ∧ Gp.Good s.data.toList b k0 ps k ∧ Zp b k0 pre ps k)
    (fun p _ _ => s.size - (intOf p).toNat)
  case atStart =>
    refine ⟨[], [], k0, rfl, by simp, ?_, gC, Gp.PRel.start _ _ _, Gp.Good.start _ _ _, Zp.nil⟩
    exact HJ.out _ _ _ none h0 (grown_of_below ((Below.refl _ W).drew)) (fun r e => by cases e)
  case round =>
    obtain ⟨pre, ps, k, rfl, rfl, hJs, hB, hPR, hG, hZ⟩ := hrel
    have HPR := Lib.hid hPR
    have HG := Lib.hid hG
    have HZ := Lib.hid hZ
    have HB := Lib.hid hB
    have cC1 := cell_row1 hB
    have hln := hZ.len
    have hfew := hG.few
    have hks : k ≤ s.size := by
      rcases hG.le with h | h
      · rw [HL.out] at h; exact h
      · omega
    have HJS := Lib.hid hJs
    obtain ⟨m, hm⟩ : ∃ m, ps.length = m := ⟨_, rfl⟩
    have NX := fun W1 : World => next9_any s k (b + (m : Int)) W1 (by omega)
    have hlt : pre.length < s.size + 1 := by omega
    clear hPR hG hZ hJs hB
    rcases fd_cases s.data.toList (b + (m : Int)) k with ⟨e, he, hne, he0, he6, hwhy⟩ | ⟨r, j, he, hnx, ha, hok, h7, h8⟩
    · rw [he] at NX
      have HD := Lib.hid (all_came HPR.out HG.out HZ.out (by rw [hm]; exact he) hne (by rw [hm]; exact hwhy))
      have hnb : (e != 0) = true := by simpa using hne
      unfold fdVal Rp.zero at NX
      dsimp only at NX
      replace NX := Lib.hid NX
      clear he hwhy
      rw [hm]
      gi_wp2_with (refine ⟨trivial, ?_⟩; gi_at_call 109; refine (callsIn_wide.2 (NX.out _)).mono ?_; rintro e1 w1 ⟨rfl, b1⟩; have B2 := Lib.hid (b1.alloc (Below.size b1) (Obj.cells #[.int .i64 0, .int .i64 0, .string ByteArray.empty] 57)); have J2 := Lib.hid (HJ.out _ _ _ none HJS.out (grown_of_below B2.out) (fun r e => by cases e)); clear b1)
      refine ⟨fun _ h => (by cases h), ?_⟩
      gi_wp2
      refine bodyPost_ret (results_none rfl _ _ _) rfl ?_
      exact ⟨⟨_, rfl⟩, .inl ⟨_, HD.out, J2.out⟩⟩
    · obtain ⟨q, hq⟩ : ∃ q, k + j = q := ⟨_, rfl⟩
      rw [List.length_drop, HL.out] at h8
      have hq1 : k + 7 ≤ q := by omega
      have hq2 : q ≤ s.size := by omega
      rw [he, hq] at NX
      obtain ⟨x, hx⟩ : ∃ x : It b, x = ⟨(r, q), hok, by show q ≤ _; omega, by show b ≤ r.a; omega⟩ := ⟨_, rfl⟩
      have HX := Lib.hid (show itVals x = #[.agg #[.int .i64 r.a, .int .i64 r.t, .string r.d], .int .i64 (q : Int)] by rw [hx]; rfl)
      have HST := Lib.hid (show Gp.PRel s.data.toList b k0 (ps ++ [(r, k)]) q ∧ Gp.Good s.data.toList b k0 (ps ++ [(r, k)]) q ∧ Zp b k0 (pre ++ [x]) (ps ++ [(r, k)]) q from by
        rw [← hm] at ha
        have hj : j ≤ (s.data.toList.drop k).length := by rw [List.length_drop, HL.out]; exact h8
        refine ⟨?_, ?_, ?_⟩
        · rw [← hq]; exact HPR.out.step hnx (by omega) hj ha
        · rw [← hq]; exact HG.out.step hok ha h7 hj
        · subst hx; exact Zp.snoc _ HZ.out ha)
      have HPL := Lib.hid (show (ps ++ [(r, k)]).length = m + 1 by simp [hm])
      unfold fdVal at NX
      dsimp only at NX
      replace NX := Lib.hid NX
      clear he hnx hok ha hx
      rw [hm]
      gi_wp2_with (refine ⟨trivial, ?_⟩; gi_at_call 109; refine (callsIn_wide.2 (NX.out _)).mono ?_; rintro e1 w1 ⟨rfl, b1⟩; have B2 := Lib.hid (b1.alloc (Below.size b1) (Obj.cells #[.int .i64 r.a, .int .i64 r.t, .string r.d] 57)); obtain ⟨fn, tmps, assign, body, hy, hR⟩ := HY.out pre x _ (HJ.out _ _ _ none HJS.out (grown_of_below B2.out) (fun r e => by cases e)) hlt; rw [HX.out] at hy; have HR := Lib.hid hR; clear hR b1)
      refine HR.out.mono ?_
      rintro e W3 (⟨rfl, hJ3, hk3⟩ | ⟨rfl, hJx3⟩)
      · have HJ3 := Lib.hid hJ3
        have B3 := Lib.hid (hk3 _ ((B2.out.block C (Array.getElem?_eq_some_iff.1 HB.out).1).trans HB.out))
        clear hJ3 hk3
        gi_wp2
        go_roundw
        case rel => exact ⟨pre ++ [x], ps ++ [(r, k)], q, rfl, by rw [HPL.out]; exact congrArg (Value.int .i64) (by omega), HJ3.out, B3.out, HST.out.1, HST.out.2.1, HST.out.2.2⟩
        case measure => simp [intOf]; omega
      · have HJX := Lib.hid hJx3
        clear hJx3
        gi_wp2
        refine bodyPost_ret (results_none rfl _ _ _) rfl ?_
        exact ⟨⟨_, rfl⟩, .inr ⟨_, ⟨_, _, HST.out.1, HST.out.2.1, HST.out.2.2⟩, HJX.out⟩⟩

/-- The iterator's contract, for the law on such loops. -/
theorem iter9_stops (s : ByteArray) (b : Int) (k0 A O C : Nat) (n : Nat) (TC : TypeId) (hn : 1 ≤ n) (hs : s.size ≤ 4398046511104) (hb0 : 0 ≤ b) (hb1 : b ≤ 1099511627776) (hk0 : k0 ≤ s.size) (w : World)
    (hA : A < w.heap.size) (hO : O < w.heap.size) (hC : C < w.heap.size)
    (cA : w.cell? ⟨A, 0, none⟩ = some (.int .i64 (k0 : Int))) (cO : w.cell? ⟨O, 0, none⟩ = some (.int .i64 b)) (gC : w.heap[C]? = some (.cells #[.string s] TC (0, 0))) :
    SeqStopsK Fence.wide n Tryz.prog 134 #[.pointer (some ⟨A, 0, none⟩), .pointer (some ⟨O, 0, none⟩), .pointer (some ⟨C, 0, none⟩)] (itVals (b := b)) (KpC C)
      (AllCame s.data.toList b k0) (SomeCame s.data.toList b k0) (s.size + 1) w := fun l J Jx W hW hJ _ hY h0 =>
  iter9_in s b k0 A O C l n TC hn hs hb0 hb1 hk0 J Jx W hJ hY ((hW.cell (p := ⟨A, 0, none⟩) hA).trans cA) ((hW.cell (p := ⟨O, 0, none⟩) hO).trans cO) ((hW.block C hC).trans gC) h0

set_option maxRecDepth 100000 in
/-- What makes the iterator. -/
theorem records9_any (s : ByteArray) (k0 : Nat) (b : Int) (w : World) :
    Calls Tryz.prog 108 #[.string s, .int .i64 (k0 : Int), .int .i64 b] w fun e w' =>
      e = .returned (.func (.func 134) #[] #[.pointer (some ⟨w.heap.size + 1, 0, none⟩), .pointer (some ⟨w.heap.size + 2, 0, none⟩), .pointer (some ⟨w.heap.size, 0, none⟩)]) ∧
      w' = ((w.alloc (.cells #[.string s] 9)).alloc (.cells #[.int .i64 (k0 : Int)] 3)).alloc (.cells #[.int .i64 b] 3) := by
  go_enter Tryz.func108, Tryz.ntmps108
  go_wp2_with fail
  go_ret
  exact ⟨rfl, rfl⟩

end Go.Proofs.YthhhocgpoenigaaGreat
