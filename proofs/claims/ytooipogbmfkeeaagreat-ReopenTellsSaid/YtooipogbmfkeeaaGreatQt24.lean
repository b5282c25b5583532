/-
  Parts of what the laws of this seat stand on: SegRef, FoldSearch, FoldRight, TrmTrim, TrmPlay.
-/
import Derived.Test.YtooipogbmfkeeaaGreatQt1
import Derived.BigQuiet
import Derived.ChangeArms
import Derived.Deep.AppendSrc
import Derived.Deep.QuietTactic
import Derived.Deep.RegionHeld3
import Derived.Deep.RegionLaw
import Derived.Deep.Slices
import Derived.Deep.Strs
import Derived.IntWalk
import Derived.Laws.AppendOwnNone
import Derived.Laws.CopyRow
import Derived.Laws.IdiomCopy
import Derived.Laws.StructEq
import Derived.Lib.AppendZerosOnto
import Derived.Lib.Builder
import Derived.Lib.SliceRun
import Derived.Lib.SmallJoins
import Derived.Lib.Strings
import Derived.Outline
import Derived.RegionTactic
import Derived.Shelf.RegionOpenPlain
import Derived.Shelf.Spec.SlicesInsert
import Derived.Test.YtooipogbmfkeeaaGreatQt13
import Derived.Test.YtooipogbmfkeeaaGreatQt14
import Derived.Test.YtooipogbmfkeeaaGreatQt15
import Derived.Test.YtooipogbmfkeeaaGreatQt16
import Derived.Test.YtooipogbmfkeeaaGreatQt19
import Derived.Test.YtooipogbmfkeeaaGreatQt2
import Derived.Test.YtooipogbmfkeeaaGreatQt20
import Derived.Test.YtooipogbmfkeeaaGreatQt22
import Derived.Test.YtooipogbmfkeeaaGreatQt23
import Derived.Test.YtooipogbmfkeeaaGreatQt3
import Derived.Test.YtooipogbmfkeeaaGreatQt4
import Derived.Test.YtooipogbmfkeeaaGreatQt5
import Derived.Test.YtooipogbmfkeeaaGreatQt6
import Derived.Test.YtooipogbmfkeeaaGreatQt7
set_option maxRecDepth 100000
set_option maxHeartbeats 6400000
namespace Go.Proofs.YtooipogbmfkeeaaGreat
section
open Go.RowKit
def NL : Lay Nat where
 enc := fun n => [.int .i64 (n : Int)]
 k := 1
 len := fun _ => rfl
 one := by intro f u hu; rw [List.mem_singleton] at hu; subst hu; rfl
 pos := by decide
 T := 3
 ok := fun n => n ≤ 9223372036854775807
 z := 0
theorem info_int : (Tryz.prog.info? 3).map (fun i => (i.zero, i.size, i.bytes)) = some (some (.int .i64 0), 1, 8) := by kernel_rfl
theorem own_unlike {w : World} {B B' : Nat} {e e' : TypeId} {k k' n n' : Nat} {v v' : Value} {xs xs' : List Value} (h : w.ownsRow B e k v n xs) (h' : w.ownsRow B' e' k' v' n' xs') (he : e ≠ e') : v.ownBlock = none ∨ v.ownBlock ≠ v'.ownBlock := by
 rcases h.2 with ⟨rfl, _⟩ | ⟨g, cap, cur, rfl, _, hg, _⟩
 · exact .inl rfl
 · refine .inr fun e0 => ?_
   rcases h'.2 with ⟨rfl, _⟩ | ⟨g', cap', cur', rfl, _, hg', _⟩
   · cases e0
   · simp [Value.ownBlock] at e0
     subst e0
     rw [hg] at hg'
     injection hg' with hg'
     injection hg' with _ e1
     exact he e1
theorem own_slice {w : World} {B : Nat} {e : TypeId} {k n : Nat} {v : Value} {xs : List Value} (h : w.ownsRow B e k v n xs) : ∃ a c, v = .slice a n c := by
 rcases h.2 with ⟨rfl, rfl⟩ | ⟨g, cap, cur, rfl, _⟩
 · exact ⟨none, 0, rfl⟩
 · exact ⟨_, _, rfl⟩
theorem map_snoc {α β : Type} (f : α → β) (l : List α) (x : α) : (l ++ [x]).map f = l.map f ++ [f x] := by simp
def PlacesOut (w : World) (F : List (Rp.Rec × Nat) × Nat × Int) (e : Ending) (w' : World) : Prop :=
 ∃ v vp, e = .returned (.tuple #[v, vp, .int .i64 (F.2.1 : Nat), .int .i64 F.2.2]) ∧ IsRecs w' v (F.1.map Prod.fst) ∧ IsL NL w' vp (F.1.map Prod.snd) ∧ Below w.heap.size w w'
theorem PlacesOut.mk {w w' : World} {F : List (Rp.Rec × Nat) × Nat × Int} {ps : List (Rp.Rec × Nat)} {k : Nat} {er : Int} {v vp : Value} (h : F = (ps, k, er)) (hv : IsRecs w' v (ps.map Prod.fst)) (hp : IsL NL w' vp (ps.map Prod.snd)) (hb : Below w.heap.size w w') :
 PlacesOut w F (.returned (.tuple #[v, vp, .int .i64 (k : Int), .int .i64 er])) w' := by
 subst h
 exact ⟨v, vp, rfl, hv, hp, hb⟩
theorem places_end {w wr : World} {l : List UInt8} {b : Int} {ps : List (Rp.Rec × Nat)} {k : Nat} {v vp : Value} {B : Nat} (hk : k ≤ 4398046511104) (hg : Gp.Good l b 0 ps k)
 (h1 : wr.ownsRow B 49 3 v ps.length (recVals (ps.map Prod.fst))) (h2 : wr.ownsRow B 3 1 vp ps.length (NL.vals (ps.map Prod.snd))) {F : List (Rp.Rec × Nat) × Nat × Int} {er : Int} (hF : F = (ps, k, er)) (hb : Below w.heap.size w wr) :
 PlacesOut w F (.returned (.tuple #[v, vp, .int .i64 (k : Int), .int .i64 er])) wr := by
 have hf := hg.few
 refine PlacesOut.mk hF (IsRecs.own h1 (by unfold maxLen; omega) fun r hr => ?_) ?_ hb
 · rw [List.mem_map] at hr
   obtain ⟨p, hp, rfl⟩ := hr
   exact hg.ok p hp
 · have h3 : OwnL NL wr B vp (ps.map Prod.snd) := by
    unfold OwnL
    rw [List.length_map]
    exact h2
   refine h3.is (by rw [List.length_map]; unfold maxLen; omega) fun n hn => ?_
   rw [List.mem_map] at hn
   obtain ⟨p, hp, rfl⟩ := hn
   obtain ⟨i, hi, rfl⟩ := List.getElem_of_mem hp
   have := (hg.lo i hi).2
   show _ ≤ 9223372036854775807
   omega
theorem rplaces_out (s : ByteArray) (base : Int) (w : World) (h : base < 0 ∨ 1099511627776 < base) (h1 : -9223372036854775808 ≤ base) (h2 : base ≤ 9223372036854775807) :
 Calls Tryz.prog 105 #[.string s, .int .i64 base] w (PlacesOut w (Gp.full s.data.toList base)) := by
 have HF := zid (PlacesOut.mk (w := w) (Gp.full_out (l := s.data.toList) (Rp.inB_no h)) (IsRecs.nil w none 0) (IsL.nil (Y := NL) w none 0) (Below.refl _ w))
 rcases h with h | h
 · go_enter Tryz.func105, Tryz.ntmps105
   go_wp2_with fail
   refine bodyPost_ret (v := .tuple #[.slice none 0 0, .slice none 0 0, .int .i64 0, .int .i64 1]) (by simp [results, Tryz.results105, go_sem]) rfl ?_
   exact HF.out
 · have e1 : decide (base < 0) = false := by simp; omega
   go_enter Tryz.func105, Tryz.ntmps105
   go_wp2_with fail
   refine bodyPost_ret (v := .tuple #[.slice none 0 0, .slice none 0 0, .int .i64 0, .int .i64 1]) (by simp [results, Tryz.results105, go_sem]) rfl ?_
   exact HF.out
theorem rplaces_in (s : ByteArray) (base : Int) (w : World) (hs : s.size ≤ 4398046511104) (hb0 : 0 ≤ base) (hb1 : base ≤ 1099511627776) :
 Calls Tryz.prog 105 #[.string s, .int .i64 base] w (PlacesOut w (Gp.full s.data.toList base)) := by
 have HL := zid (show s.data.toList.length = s.size from rfl)
 have HFU := zid (Gp.full_in (l := s.data.toList) (Rp.inB_mk hb0 hb1))
 obtain ⟨i0, hi, hz0, hz1, hz2⟩ := info_parts info_rec
 obtain ⟨i1, hj, hy0, hy1, hy2⟩ := info_parts info_int
 have e1 : decide (base < 0) = false := by simp; omega
 have e2 : decide ((1099511627776 : Int) < base) = false := by simp; omega
 go_enter Tryz.func105, Tryz.ntmps105
 go_wp2_with fail
 clear e1 e2
 go_loopw [8, 9, 10] (fun v vp a wr => ∃ (ps : List (Rp.Rec × Nat)) (k : Nat), k ≤ s.size ∧ a = .int .i64 k ∧ wr.ownsRow w.heap.size 49 3 v ps.length (recVals (ps.map Prod.fst)) ∧ wr.ownsRow w.heap.size 3 1 vp ps.length (NL.vals (ps.map Prod.snd)) ∧ Gp.PRel s.data.toList base 0 ps k ∧ Gp.Good s.data.toList base 0 ps k ∧ Below w.heap.size w wr)
  (fun _ _ a _ => s.size - (intOf a).toNat)
 case atStart => exact ⟨[], 0, Nat.zero_le _, rfl, World.ownsRow_nil _ _ _ _, World.ownsRow_nil _ _ _ _, Gp.PRel.start _ _ _, Gp.Good.start _ _ _, Below.refl _ _⟩
 case round =>
  obtain ⟨ps, k, hk, rfl, hO, hP, hr, hgd, hb⟩ := hrel
  have HR := zid hr
  have HG := zid hgd
  have HO := zid hO
  have HP := zid hP
  have HB := zid hb
  have hsz := hb.size
  have hfew := hgd.few
  clear hr hgd
  by_cases hlt : k < s.size
  · have C := fun W : World => rfnext_any s (k : Int) W (by omega)
    rw [nxAt_in] at C
    rcases Fr.nx_cases (s.data.toList.drop k) with ⟨er, he, h3⟩ | ⟨j, b, he, h5, h6, h7, h8⟩
    · rw [nxVal_no he (by omega)] at C
      have HV := zid (HFU.out.trans (HR.out.stop (by rw [HL.out]; exact hlt) (Rp.nxt_no he (by omega)) (by omega)))
      replace C := zid C
      clear he hO hP
      rcases h3 with rfl | rfl | rfl
      all_goals
       go_wp2_with fail
       refine (C.out _).mono ?_
       rintro e w1 ⟨rfl, b1⟩
       have b01 := hb.trans (b1.mono hb.size)
       have HF := zid (places_end (Nat.le_trans hk hs) HG.out (own_below HO.out b1) (own_below HP.out b1) HV.out b01)
       go_wp2_with fail
       refine bodyPost_ret (v := .tuple #[u8, u9, .int .i64 k, .int .i64 _]) (by simp [results, Tryz.results105, go_sem]; rfl) rfl ?_
       exact HF.out
    · rw [nxVal_yes he] at C
      obtain ⟨q, hq⟩ : ∃ q, k + j = q := ⟨_, rfl⟩
      rw [hq] at C
      replace C := zid C
      have hbl : b.length ≤ 9223372036854775807 := by have := h7.2; omega
      have D := fun W : World => rget_any ⟨b.toArray⟩ W (by rw [size_mk_list]; exact hbl)
      rw [show (⟨b.toArray⟩ : ByteArray).data.toList = b from rfl] at D
      rcases Rp.get_cases b with ⟨er, hg, h3⟩ | ⟨r, hg, hok, hbd⟩
      · rw [getVal_no hg] at D
        have HV := zid (HFU.out.trans (HR.out.stop (by rw [HL.out]; exact hlt) (Rp.nxt_bad he hg (by omega)) (by omega)))
        replace D := zid D
        clear he hg h5 h6 h7 h8 hq hbl hO hP
        rcases h3 with rfl | rfl | rfl
        all_goals
         go_wp2_with fail
         refine (C.out _).mono ?_
         rintro e w1 ⟨rfl, b1⟩
         go_wp2_with fail
         refine (D.out _).mono ?_
         rintro e w2 ⟨rfl, b2⟩
         have b12 := bel_trans2 b1 b2
         have b01 := hb.trans (b12.mono hb.size)
         have b02 := b01.alloc b01.size (.cells #[.int .i64 0, .int .i64 0, .string ⟨#[]⟩] 49)
         have HF := zid (places_end (Nat.le_trans hk hs) HG.out ((own_below HO.out b12).alloc (.cells #[.int .i64 0, .int .i64 0, .string ⟨#[]⟩] 49)) ((own_below HP.out b12).alloc (.cells #[.int .i64 0, .int .i64 0, .string ⟨#[]⟩] 49)) HV.out b02)
         clear b02 b12 b01
         go_wp2_with fail
         refine bodyPost_ret (v := .tuple #[u8, u9, .int .i64 k, .int .i64 _]) (by simp [results, Tryz.results105, go_sem]; rfl) rfl ?_
         exact HF.out
      · rw [getVal_yes hg] at D
        have hnx := Rp.nxt_yes he hg
        have h6' := h6
        rw [List.length_drop, HL.out] at h6
        have h7b := Rp.body_pos r
        rw [hbd] at h7b
        unfold recVal at D
        replace D := zid D
        obtain ⟨va, vc, rfl⟩ := own_slice hO
        obtain ⟨ln, hln⟩ : ∃ ln, ps.length = ln := ⟨_, rfl⟩
        have hlk : 7 * ln ≤ k := by omega
        by_cases ha : r.a = base + ps.length
        · have HST := zid (HR.out.step hnx (by omega) h6' ha)
          have HSG := zid (HG.out.step hok ha (by omega) h6')
          rw [hq] at HST HSG
          have hq2 : q ≤ s.size := by omega
          have hq4 : k < q := by omega
          have HSF := zid (map_snoc Prod.fst ps (r, k))
          have HSS := zid (map_snoc Prod.snd ps (r, k))
          have HSL := zid (show (ps ++ [(r, k)]).length = ps.length + 1 by simp)
          have HNV := zid (NL.vals_append (ps.map Prod.snd) [k])
          rw [hln] at ha HSL
          obtain ⟨ra, rt, rd⟩ := r
          dsimp only at ha D HST HSG HSF HSS HSL
          subst ha
          clear he hg hok hnx h5 h6 h6' h7 h8 h7b hq hbl hbd hO hP
          rw [hln] at HO HP ⊢
          clear hln
          go_wp2_with fail
          refine (C.out _).mono ?_
          rintro e w1 ⟨rfl, b1⟩
          go_wp2_with fail
          refine (D.out _).mono ?_
          rintro e w2 ⟨rfl, b2⟩
          have HB12 := zid (bel_trans2 b1 b2)
          have HB01 := zid (HB.out.trans (HB12.out.mono hsz))
          have HO2 := zid (((own_below HO.out HB12.out).alloc (.cells #[.int .i64 (base + (ln : Int)), .int .i64 rt, .string rd] 49)).alloc (.cells #[.int .i64 (base + (ln : Int)), .int .i64 rt, .string rd] 49))
          have HP2 := zid (((own_below HP.out HB12.out).alloc (.cells #[.int .i64 (base + (ln : Int)), .int .i64 rt, .string rd] 49)).alloc (.cells #[.int .i64 (base + (ln : Int)), .int .i64 rt, .string rd] 49))
          have HBB := zid ((HB01.out.alloc HB01.out.size (.cells #[.int .i64 (base + (ln : Int)), .int .i64 rt, .string rd] 49)).alloc (by have := HB01.out.size; simp; omega) (.cells #[.int .i64 (base + (ln : Int)), .int .i64 rt, .string rd] 49))
          have hs2 := HB01.out.size
          clear b1 b2
          go_wp2_with (first | (at_builtin; refine wpList_append_own _ rfl _ _ 80 rfl w.heap.size 49 i0 (.agg #[.int .i64 0, .int .i64 0, .string ByteArray.empty]) 3 32 Tryz.underlying80 hi hz0 hz1 hz2 rfl (by decide) _ _ _ rfl HO2.out ⟨w2.heap.size + 1, 0, none⟩ 1 1 [.int .i64 (base + (ln : Int)), .int .i64 rt, .string rd] (by simp [go_sem]) rfl (news_two _ _ _ _ _ _) (by simp [Value.oneCell']) (by unfold maxLen; omega) (by omega) (by simp; omega) ?_; intro v3 w3 hown3 hgrow3 hnil3; have HO3 := zid hown3; have HP3 := zid (World.ownsRow.kept HP2.out hgrow3 (own_unlike HP2.out HO2.out (by decide))); have HB3 := zid (HBB.out.grown hgrow3 (by simp; omega) (fun p hp => (HO.out.lt p hp).1)); have hs3 := HB3.out.size; clear hown3 hgrow3 hnil3; have HP4 := zid (HP3.out.alloc (.cells #[.int .i64 k] 3)); have HO4 := zid (HO3.out.alloc (.cells #[.int .i64 k] 3)); have HB4 := zid (HB3.out.alloc hs3 (.cells #[.int .i64 k] 3))) | (at_builtin; refine wpList_append_own _ rfl _ _ 36 rfl w.heap.size 3 i1 (.int .i64 0) 1 8 Tryz.underlying36 hj hy0 hy1 hy2 rfl (by decide) _ _ _ rfl HP4.out ⟨w3.heap.size, 0, none⟩ 1 1 [.int .i64 k] (by simp [go_sem]) rfl (news_new w3 _ [.int .i64 k] 3 rfl) (by simp [Value.oneCell']) (by unfold maxLen; omega) (by omega) (by simp; omega) ?_; intro v5 w5 hown5 hgrow5 hnil5))
          go_roundw
          case rel => exact ⟨ps ++ [(⟨base + (ln : Int), rt, rd⟩, k)], q, hq2, rfl, by rw [HSL.out, HSF.out, recVals_snoc]; exact World.ownsRow.kept HO4.out hgrow5 (own_unlike HO4.out HP4.out (by decide)), by rw [HSL.out, HSS.out, NL.vals_append]; exact hown5, HST.out, HSG.out, HB4.out.grown hgrow5 (by simp; omega) (fun p hp => (HP.out.lt p hp).1)⟩
          case measure => simp [intOf]; omega
        · have HV := zid (HFU.out.trans (HR.out.form (by rw [HL.out]; exact hlt) hnx ha))
          have haw : ¬ r.a = base + (ln : Int) := by rw [← hln]; exact ha
          have hae : (r.a == base + (ln : Int)) = false := by simpa using haw
          clear he hg hok hnx h5 h6 h6' h7 h8 h7b hq hbl hbd hO hP ha
          have HE := zid fun (W : World) (h1 : W.ownsRow w.heap.size 49 3 (.slice va ps.length vc) ps.length (recVals (ps.map Prod.fst))) (h2 : W.ownsRow w.heap.size 3 1 u9 ps.length (NL.vals (ps.map Prod.snd))) (h3 : Below w.heap.size w W) => places_end (Nat.le_trans hk hs) HG.out h1 h2 HV.out h3
          rw [hln] at HE HO HP ⊢
          clear hln
          go_wp2_with fail
          refine (C.out _).mono ?_
          rintro e w1 ⟨rfl, b1⟩
          go_wp2_with fail
          refine (D.out _).mono ?_
          rintro e w2 ⟨rfl, b2⟩
          have HB12 := zid (bel_trans2 b1 b2)
          have HB01 := zid (HB.out.trans (HB12.out.mono hsz))
          have HF := zid (HE.out _ ((own_below HO.out HB12.out).alloc (.cells #[.int .i64 r.a, .int .i64 r.t, .string r.d] 49)) ((own_below HP.out HB12.out).alloc (.cells #[.int .i64 r.a, .int .i64 r.t, .string r.d] 49)) (HB01.out.alloc HB01.out.size (.cells #[.int .i64 r.a, .int .i64 r.t, .string r.d] 49)))
          clear b1 b2
          go_wp2_with fail
          refine bodyPost_ret (v := .tuple #[.slice va ln vc, u9, .int .i64 k, .int .i64 3]) (by simp [results, Tryz.results105, go_sem]) rfl ?_
          exact HF.out
  · have HV := zid (HFU.out.trans (HR.out.done (by rw [HL.out]; omega)))
    have HF := zid (places_end (Nat.le_trans hk hs) HG.out HO.out HP.out HV.out hb)
    clear hO hP
    go_wp2_with fail
    refine bodyPost_ret (v := .tuple #[u8, u9, .int .i64 k, .int .i64 0]) (by simp [results, Tryz.results105, go_sem]) rfl ?_
    exact HF.out
theorem rplaces_any (s : ByteArray) (base : Int) (w : World) (hs : s.size ≤ 4398046511104) (h1 : -9223372036854775808 ≤ base) (h2 : base ≤ 9223372036854775807) :
 Calls Tryz.prog 105 #[.string s, .int .i64 base] w (PlacesOut w (Gp.full s.data.toList base)) := by
 by_cases h : base < 0 ∨ 1099511627776 < base
 · exact rplaces_out s base w h h1 h2
 · exact rplaces_in s base w hs (by omega) (by omega)
def ScanOut (w : World) (F : List (Rp.Rec × Nat) × Nat × Int) (e : Ending) (w' : World) : Prop :=
 ∃ v, e = .returned (.tuple #[v, .int .i64 (F.2.1 : Nat), .int .i64 F.2.2]) ∧ IsRecs w' v (F.1.map Prod.fst) ∧ Below w.heap.size w w'
theorem rscan9_any (s : ByteArray) (base : Int) (w : World) (hs : s.size ≤ 4398046511104) (h1 : -9223372036854775808 ≤ base) (h2 : base ≤ 9223372036854775807) :
 Calls Tryz.prog 64 #[.string s, .int .i64 base] w (ScanOut w (Gp.full s.data.toList base)) := by
 have P := zid (rplaces_any s base w hs h1 h2)
 generalize Gp.full s.data.toList base = F at *
 go_enter Tryz.func64, Tryz.ntmps64
 go_wp2_with fail
 refine P.out.mono ?_
 rintro e w1 ⟨v, vp, rfl, hv, hp, b1⟩
 have HF := zid (show ScanOut w F (.returned (.tuple #[v, .int .i64 (F.2.1 : Nat), .int .i64 F.2.2])) w1 from ⟨v, rfl, hv, b1⟩)
 clear hv hp b1
 go_wp2_with fail
 go_ret3
 exact HF.out
theorem frozenK {W : World} {k : Nat} {T : TypeId} {cs : Array Value} (h : W.heap[k]? = some (.cells cs T (0, 0))) : W.frozen? ⟨k, 0, none⟩ = false ∧ W.frozen? ⟨k, 1, none⟩ = false ∧ W.frozen? ⟨k, 2, none⟩ = false := by
 refine ⟨?_, ?_, ?_⟩ <;> (unfold World.frozen?; rw [h]; rfl)
theorem cells3 {W : World} {k : Nat} {T : TypeId} {x y z : Value} (h : W.heap[k]? = some (.cells #[x, y, z] T (0, 0))) : W.cell? ⟨k, 0, none⟩ = some x ∧ W.cell? ⟨k, 1, none⟩ = some y ∧ W.cell? ⟨k, 2, none⟩ = some z :=
 ⟨by rw [cell_of_row _ _ 0 _ _ _ h]; rfl, by rw [cell_of_row _ _ 1 _ _ _ h]; rfl, by rw [cell_of_row _ _ 2 _ _ _ h]; rfl⟩
theorem bel_st3 {base k : Nat} {w W : World} (h : Below base w W) (hk : base ≤ k) (x y z : Value) : Below base w (((W.setCell ⟨k, 0, none⟩ x).setCell ⟨k, 1, none⟩ y).setCell ⟨k, 2, none⟩ z) :=
 ((h.setCell (p := ⟨k, 0, none⟩) hk x).setCell (p := ⟨k, 1, none⟩) hk y).setCell (p := ⟨k, 2, none⟩) hk z
theorem getD_pr {l : List Fp.Pr} {k : Nat} (h : k < l.length) : l.getD k Fp.zero = l[k] := by simp [List.getD_eq_getElem?_getD, h]
def fewP (l : List Fp.Pr) : Bool := decide (l.length ≤ 300) && l.all fun p => decide (p.v.size ≤ 100)
theorem fewP_yes {l : List Fp.Pr} (h : l.length ≤ 300) (hs : ∀ i, i < l.length → (l.getD i Fp.zero).v.size ≤ 100) : fewP l = true := by
 unfold fewP
 rw [Bool.and_eq_true, List.all_eq_true]
 refine ⟨decide_eq_true h, fun p hp => ?_⟩
 obtain ⟨i, hi, rfl⟩ := List.getElem_of_mem hp
 rw [← getD_pr hi]
 exact decide_eq_true (hs i hi)
end
namespace Trm
open Go.RowKit So Dsk Rts Sto
theorem bd_undo {D : Dp.Dk} {k : Nat} (h : Bd D k) (e : Int) (n : ByteArray) : Bd (Lg.undo (D, e) n).1 (k + 1) := by
 unfold Lg.undo
 split
 · exact bd_delete h n
 · exact h.mono (by omega)
end Trm
namespace Lg
open Dp So
theorem lohi_len (c : UInt8) : ∀ l : List Fp.Pr, (Fp.lo c l).length + (Fp.hi c l).length ≤ l.length
 | [] => Nat.le_refl _
 | p :: l => by
  have ih := lohi_len c l
  unfold Fp.lo Fp.hi at ih ⊢
  rw [List.filter_cons, List.filter_cons, List.length_cons]
  by_cases h1 : p.k.toNat < c.toNat
  · have h2 : ¬ c.toNat < p.k.toNat := by omega
    rw [if_pos (decide_eq_true h1), if_neg (by simpa using h2), List.length_cons]
    omega
  · rw [if_neg (by simpa using h1)]
    split
    · rw [List.length_cons]; omega
    · omega
theorem step_len (l : List Fp.Pr) (s : ByteArray) : (Fp.step l s).length ≤ l.length + 1 := by
 unfold Fp.step
 split
 · omega
 · have h := lohi_len (Fp.key s) l
   have h2 : (Fp.mid s).length ≤ 1 := by unfold Fp.mid; split <;> simp
   rw [List.length_append, List.length_append]
   omega
theorem fold_len : ∀ (ss : List ByteArray) (l : List Fp.Pr), (Fp.fold l ss).length ≤ l.length + ss.length
 | [], l => Nat.le_refl _
 | s :: ss, l => by
  have h1 := fold_len ss (Fp.step l s)
  have h2 := step_len l s
  have e : Fp.fold l (s :: ss) = Fp.fold (Fp.step l s) ss := rfl
  rw [e, List.length_cons]
  omega
theorem bytes_few {l : List Fp.Pr} (h : Fp.St l) (hn : l.length ≤ 40) : fewP l = true ∧ (Fp.bytes l).length ≤ 3000 := by
 refine ⟨fewP_yes (by omega) fun i hi => ?_, ?_⟩
 · have := (h.1 _ (List.getElem_mem hi)).2
   rw [List.getD_eq_getElem?_getD, List.getElem?_eq_getElem hi, Option.getD_some]
   omega
 · have h1 := Fp.flat_len l 63 fun p hp => (h.1 p hp).2
   have h3 := Vp.put_len_le l.length
   have h5 : l.length * (10 + 63) ≤ 40 * 73 := Nat.mul_le_mul hn (Nat.le_refl _)
   unfold Fp.bytes
   rw [List.length_append]
   omega
variable {q F : Int} {S : St} {s0 : List Fp.Pr} {rs : List Rp.Rec}
theorem Log.few (h : Log q S F s0 rs) {n : Nat} (hn : s0.length + rs.length ≤ n) (h40 : n ≤ 40) {k : Nat} (hk : k ≤ rs.length) : Fp.St (stateT S (F + (k : Int))) ∧ (stateT S (F + (k : Int))).length ≤ n ∧ fewP (stateT S (F + (k : Int))) = true ∧ (Fp.bytes (stateT S (F + (k : Int)))).length ≤ 3000 := by
 have e := h.state hk
 have hs : Fp.St (Fp.fold s0 ((rs.take k).map fun r => r.d)) := Fp.St.fold h.snap.2.2 fun s hs => by
  obtain ⟨r, hr, rfl⟩ := List.mem_map.1 hs
  have := h.ok r (List.mem_of_mem_take hr)
  unfold Rp.Ok at this
  omega
 have hl := fold_len ((rs.take k).map fun r => r.d) s0
 rw [List.length_map, List.length_take] at hl
 rw [e]
 have h2 := bytes_few hs (by omega)
 exact ⟨hs, by omega, h2.1, h2.2⟩
theorem Log.play_n (h : Log q S F s0 rs) (hq : 0 < q) (hv : S.v < 1099511627776) (i : Int) (a : Pa) : ∃ F' s0' rs', Log q (playA q i S a) F' s0' rs' ∧ s0'.length + rs'.length ≤ s0.length + rs.length + 1 := by
 unfold playA
 split
 · exact ⟨_, _, _, h.sync.1, by omega⟩
 split
 · obtain ⟨m, hm, m2, _⟩ := h.trim_law hv a.n a.m
   refine ⟨_, _, _, m2, ?_⟩
   have hl := fold_len ((rs.take m).map fun r => r.d) s0
   rw [List.length_map, List.length_take] at hl
   rw [List.length_drop]
   omega
 split
 · exact ⟨_, _, _, h.arm a.n, by omega⟩
 split
 · exact ⟨_, _, _, h.limit a.n, by omega⟩
 · obtain ⟨_, h2, h3⟩ := h.append hq hv ⟨S.x, i, a.d⟩
   rcases h3 with ⟨_, _, _, h3⟩ | ⟨_, h3, _⟩
   · exact ⟨_, _, _, h3, by rw [List.length_append, List.length_singleton]; omega⟩
   · exact ⟨_, _, _, h3, by omega⟩
end Lg
end Go.Proofs.YtooipogbmfkeeaaGreat
