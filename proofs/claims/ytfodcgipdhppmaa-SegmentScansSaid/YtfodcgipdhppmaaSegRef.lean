/-
  What the document's functions of layer 9 answer.
  What the document's Index and Read of layer 9 answer.
-/
import Derived.Test.YtfodcgipdhppmaaSegPlain
import Derived.Test.YtfodcgipdhppmaaRecRows
import Derived.Test.YtfodcgipdhppmaaRecGetC
import Derived.Test.YtfodcgipdhppmaaMarkProg
namespace Go.Proofs.Ytfodcgipdhppmaa
open Go.RowKit

/-- How numbers lie in memory. -/
def NL : Lay Nat where
  enc := fun n => [.int .i64 (n : Int)]
  k := 1
  len := fun _ => rfl
  one := by intro f u hu; rw [List.mem_singleton] at hu; subst hu; rfl
  pos := by decide
  T := 3
  ok := fun n => n ≤ 9223372036854775807
  z := 0
theorem info_int : (Try.prog.info? 3).map (fun i => (i.zero, i.size, i.bytes)) = some (some (.int .i64 0), 1, 8) := by kernel_rfl
theorem nl_at {w : World} {fa : Option Addr} {fn fc : Nat} {l : List Nat} (h : IsL NL w (.slice fa fn fc) l) {i : Nat} (hi : i < fn) :
    ∃ b off, fa = some ⟨b, off, none⟩ ∧ w.cell? ⟨b, off + i, none⟩ = some (.int .i64 (l.getD i 0 : Nat)) := by
  have h' := h
  obtain ⟨a', cap', e, _, _, h3⟩ := h
  injection e with e1 e2 e3
  rcases h3 with h3 | ⟨b, off, h4, _⟩
  · rw [h3] at e2; simp at e2; omega
  · subst e1
    subst h4
    have := h'.at_ hi 0 _ rfl
    rw [show off + i * NL.k + 0 = off + i from by show off + i * 1 + 0 = _; omega] at this
    exact ⟨b, off, rfl, this⟩
/-- Two rows of unlike elements lie apart. -/
theorem own_unlike {w : World} {B B' : Nat} {e e' : TypeId} {k k' n n' : Nat} {v v' : Value} {xs xs' : List Value} (h : w.ownsRow B e k v n xs) (h' : w.ownsRow B' e' k' v' n' xs') (he : e ≠ e') : v.ownBlock = none ∨ v.ownBlock ≠ v'.ownBlock := by
  rcases h.2 with ⟨rfl, _⟩ | ⟨g, cap, cur, rfl, _, hg, _⟩
  · exact .inl rfl
  · refine .inr fun e0 => ?_
    rcases h'.2 with ⟨rfl, _⟩ | ⟨g', cap', cur', rfl, _, hg', _⟩
    · cases e0
    · simp [Value.ownBlock] at e0
      subst e0
      rw [hg] at hg'
      injection hg' with hg'
      injection hg' with _ e1
      exact he e1
theorem own_slice {w : World} {B : Nat} {e : TypeId} {k n : Nat} {v : Value} {xs : List Value} (h : w.ownsRow B e k v n xs) : ∃ a c, v = .slice a n c := by
  rcases h.2 with ⟨rfl, rfl⟩ | ⟨g, cap, cur, rfl, _⟩
  · exact ⟨none, 0, rfl⟩
  · exact ⟨_, _, rfl⟩
theorem map_snoc {α β : Type} (f : α → β) (l : List α) (x : α) : (l ++ [x]).map f = l.map f ++ [f x] := by simp

/-- What Places answers. -/
def PlacesOut (w : World) (F : List (Rp.Rec × Nat) × Nat × Int) (e : Ending) (w' : World) : Prop :=
  ∃ v vp, e = .returned (.tuple #[v, vp, .int .i64 (F.2.1 : Nat), .int .i64 F.2.2]) ∧ IsRecs w' v (F.1.map Prod.fst) ∧ IsL NL w' vp (F.1.map Prod.snd) ∧ Below w.heap.size w w'
theorem PlacesOut.mk {w w' : World} {F : List (Rp.Rec × Nat) × Nat × Int} {ps : List (Rp.Rec × Nat)} {k : Nat} {er : Int} {v vp : Value} (h : F = (ps, k, er)) (hv : IsRecs w' v (ps.map Prod.fst)) (hp : IsL NL w' vp (ps.map Prod.snd)) (hb : Below w.heap.size w w') :
    PlacesOut w F (.returned (.tuple #[v, vp, .int .i64 (k : Int), .int .i64 er])) w' := by
  subst h
  exact ⟨v, vp, rfl, hv, hp, hb⟩
theorem places_end {w wr : World} {l : List UInt8} {b : Int} {ps : List (Rp.Rec × Nat)} {k : Nat} {v vp : Value} {B : Nat} (hk : k ≤ 4398046511104) (hg : Gp.Good l b 0 ps k)
    (h1 : wr.ownsRow B 35 3 v ps.length (recVals (ps.map Prod.fst))) (h2 : wr.ownsRow B 3 1 vp ps.length (NL.vals (ps.map Prod.snd))) {F : List (Rp.Rec × Nat) × Nat × Int} {er : Int} (hF : F = (ps, k, er)) (hb : Below w.heap.size w wr) :
    PlacesOut w F (.returned (.tuple #[v, vp, .int .i64 (k : Int), .int .i64 er])) wr := by
  have hf := hg.few
  refine PlacesOut.mk hF (IsRecs.own h1 (by unfold maxLen; omega) fun r hr => ?_) ?_ hb
  · rw [List.mem_map] at hr
    obtain ⟨p, hp, rfl⟩ := hr
    exact hg.ok p hp
  · have h3 : OwnL NL wr B vp (ps.map Prod.snd) := by
      unfold OwnL
      rw [List.length_map]
      exact h2
    refine h3.is (by rw [List.length_map]; unfold maxLen; omega) fun n hn => ?_
    rw [List.mem_map] at hn
    obtain ⟨p, hp, rfl⟩ := hn
    obtain ⟨i, hi, rfl⟩ := List.getElem_of_mem hp
    have := (hg.lo i hi).2
    show _ ≤ 9223372036854775807
    omega

set_option maxRecDepth 100000 in
set_option maxHeartbeats 800000 in
theorem rplaces_out (s : ByteArray) (base : Int) (w : World) (h : base < 0 ∨ 1099511627776 < base) (h1 : -9223372036854775808 ≤ base) (h2 : base ≤ 9223372036854775807) :
    Calls Try.prog 21 #[.string s, .int .i64 base] w (PlacesOut w (Gp.full s.data.toList base)) := by
  have HF := Lib.hid (PlacesOut.mk (w := w) (Gp.full_out (l := s.data.toList) (Rp.inB_no h)) (IsRecs.nil w none 0) (IsL.nil (Y := NL) w none 0) (Below.refl _ w))
  rcases h with h | h
  · go_enter Try.func21, Try.ntmps21
    go_wp2_with fail
    refine bodyPost_ret (v := .tuple #[.slice none 0 0, .slice none 0 0, .int .i64 0, .int .i64 1]) (by simp [results, Try.results21, go_sem]) rfl ?_
    exact HF.out
  · have e1 : decide (base < 0) = false := by simp; omega
    go_enter Try.func21, Try.ntmps21
    go_wp2_with fail
    refine bodyPost_ret (v := .tuple #[.slice none 0 0, .slice none 0 0, .int .i64 0, .int .i64 1]) (by simp [results, Try.results21, go_sem]) rfl ?_
    exact HF.out

set_option maxRecDepth 100000 in
set_option maxHeartbeats 3200000 in
theorem rplaces_in (s : ByteArray) (base : Int) (w : World) (hs : s.size ≤ 4398046511104) (hb0 : 0 ≤ base) (hb1 : base ≤ 1099511627776) :
    Calls Try.prog 21 #[.string s, .int .i64 base] w (PlacesOut w (Gp.full s.data.toList base)) := by
  have HL := Lib.hid (show s.data.toList.length = s.size from rfl)
  have HFU := Lib.hid (Gp.full_in (l := s.data.toList) (Rp.inB_mk hb0 hb1))
  obtain ⟨i0, hi, hz0, hz1, hz2⟩ := info_parts info_rec
  obtain ⟨i1, hj, hy0, hy1, hy2⟩ := info_parts info_int
  have e1 : decide (base < 0) = false := by simp; omega
  have e2 : decide ((1099511627776 : Int) < base) = false := by simp; omega
  go_enter Try.func21, Try.ntmps21
  go_wp2_with fail
  clear e1 e2
  go_loopw [8, 9, 10] (fun v vp a wr => ∃ (ps : List (Rp.Rec × Nat)) (k : Nat), k ≤ s.size ∧ a = .int .i64 k ∧ wr.ownsRow w.heap.size 35 3 v ps.length (recVals (ps.map Prod.fst)) ∧ wr.ownsRow w.heap.size 3 1 vp ps.length (NL.vals (ps.map Prod.snd)) ∧ Gp.PRel s.data.toList base 0 ps k ∧ Gp.Good s.data.toList base 0 ps k ∧ Below w.heap.size w wr)
    (fun _ _ a _ => s.size - (intOf a).toNat)
  case atStart => exact ⟨[], 0, Nat.zero_le _, rfl, World.ownsRow_nil _ _ _ _, World.ownsRow_nil _ _ _ _, Gp.PRel.start _ _ _, Gp.Good.start _ _ _, Below.refl _ _⟩
  case round =>
    obtain ⟨ps, k, hk, rfl, hO, hP, hr, hgd, hb⟩ := hrel
    have HR := Lib.hid hr
    have HG := Lib.hid hgd
    have HO := Lib.hid hO
    have HP := Lib.hid hP
    have HB := Lib.hid hb
    have hsz := hb.size
    have hfew := hgd.few
    clear hr hgd
    by_cases hlt : k < s.size
    · have C := fun W : World => rfnext_any s (k : Int) W (by omega)
      rw [nxAt_in] at C
      rcases Fr.nx_cases (s.data.toList.drop k) with ⟨er, he, h3⟩ | ⟨j, b, he, h5, h6, h7, h8⟩
      · rw [nxVal_no he (by omega)] at C
        have HV := Lib.hid (HFU.out.trans (HR.out.stop (by rw [HL.out]; exact hlt) (Rp.nxt_no he (by omega)) (by omega)))
        replace C := Lib.hid C
        clear he hO hP
        rcases h3 with rfl | rfl | rfl
        all_goals
          go_wp2_with fail
          refine (C.out _).mono ?_
          rintro e w1 ⟨rfl, b1⟩
          have b01 := hb.trans (b1.mono hb.size)
          have HF := Lib.hid (places_end (Nat.le_trans hk hs) HG.out (own_below HO.out b1) (own_below HP.out b1) HV.out b01)
          go_wp2_with fail
          refine bodyPost_ret (v := .tuple #[u8, u9, .int .i64 k, .int .i64 _]) (by simp [results, Try.results21, go_sem]; rfl) rfl ?_
          exact HF.out
      · rw [nxVal_yes he] at C
        obtain ⟨q, hq⟩ : ∃ q, k + j = q := ⟨_, rfl⟩
        rw [hq] at C
        replace C := Lib.hid C
        have hbl : b.length ≤ 9223372036854775807 := by have := h7.2; omega
        have D := fun W : World => rget_any ⟨b.toArray⟩ W (by rw [size_mk_list]; exact hbl)
        rw [show (⟨b.toArray⟩ : ByteArray).data.toList = b from rfl] at D
        rcases Rp.get_cases b with ⟨er, hg, h3⟩ | ⟨r, hg, hok, hbd⟩
        · rw [getVal_no hg] at D
          have HV := Lib.hid (HFU.out.trans (HR.out.stop (by rw [HL.out]; exact hlt) (Rp.nxt_bad he hg (by omega)) (by omega)))
          replace D := Lib.hid D
          clear he hg h5 h6 h7 h8 hq hbl hO hP
          rcases h3 with rfl | rfl | rfl
          all_goals
            go_wp2_with fail
            refine (C.out _).mono ?_
            rintro e w1 ⟨rfl, b1⟩
            go_wp2_with fail
            refine (D.out _).mono ?_
            rintro e w2 ⟨rfl, b2⟩
            have b12 := bel_trans2 b1 b2
            have b01 := hb.trans (b12.mono hb.size)
            have b02 := b01.alloc b01.size (.cells #[.int .i64 0, .int .i64 0, .string ⟨#[]⟩] 35)
            have HF := Lib.hid (places_end (Nat.le_trans hk hs) HG.out ((own_below HO.out b12).alloc (.cells #[.int .i64 0, .int .i64 0, .string ⟨#[]⟩] 35)) ((own_below HP.out b12).alloc (.cells #[.int .i64 0, .int .i64 0, .string ⟨#[]⟩] 35)) HV.out b02)
            clear b02 b12 b01
            go_wp2_with fail
            refine bodyPost_ret (v := .tuple #[u8, u9, .int .i64 k, .int .i64 _]) (by simp [results, Try.results21, go_sem]; rfl) rfl ?_
            exact HF.out
        · rw [getVal_yes hg] at D
          have hnx := Rp.nxt_yes he hg
          have h6' := h6
          rw [List.length_drop, HL.out] at h6
          have h7b := Rp.body_pos r
          rw [hbd] at h7b
          unfold recVal at D
          replace D := Lib.hid D
          obtain ⟨va, vc, rfl⟩ := own_slice hO
          obtain ⟨ln, hln⟩ : ∃ ln, ps.length = ln := ⟨_, rfl⟩
          have hlk : 7 * ln ≤ k := by omega
          by_cases ha : r.a = base + ps.length
          · have HST := Lib.hid (HR.out.step hnx (by omega) h6' ha)
            have HSG := Lib.hid (HG.out.step hok ha (by omega) h6')
            rw [hq] at HST HSG
            have hq2 : q ≤ s.size := by omega
            have hq4 : k < q := by omega
            have HSF := Lib.hid (map_snoc Prod.fst ps (r, k))
            have HSS := Lib.hid (map_snoc Prod.snd ps (r, k))
            have HSL := Lib.hid (show (ps ++ [(r, k)]).length = ps.length + 1 by simp)
            have HNV := Lib.hid (NL.vals_append (ps.map Prod.snd) [k])
            rw [hln] at ha HSL
            obtain ⟨ra, rt, rd⟩ := r
            dsimp only at ha D HST HSG HSF HSS HSL
            subst ha
            clear he hg hok hnx h5 h6 h6' h7 h8 h7b hq hbl hbd hO hP
            rw [hln] at HO HP ⊢
            clear hln
            go_wp2_with fail
            refine (C.out _).mono ?_
            rintro e w1 ⟨rfl, b1⟩
            go_wp2_with fail
            refine (D.out _).mono ?_
            rintro e w2 ⟨rfl, b2⟩
            have HB12 := Lib.hid (bel_trans2 b1 b2)
            have HB01 := Lib.hid (HB.out.trans (HB12.out.mono hsz))
            have HO2 := Lib.hid (((own_below HO.out HB12.out).alloc (.cells #[.int .i64 (base + (ln : Int)), .int .i64 rt, .string rd] 35)).alloc (.cells #[.int .i64 (base + (ln : Int)), .int .i64 rt, .string rd] 35))
            have HP2 := Lib.hid (((own_below HP.out HB12.out).alloc (.cells #[.int .i64 (base + (ln : Int)), .int .i64 rt, .string rd] 35)).alloc (.cells #[.int .i64 (base + (ln : Int)), .int .i64 rt, .string rd] 35))
            have HBB := Lib.hid ((HB01.out.alloc HB01.out.size (.cells #[.int .i64 (base + (ln : Int)), .int .i64 rt, .string rd] 35)).alloc (by have := HB01.out.size; simp; omega) (.cells #[.int .i64 (base + (ln : Int)), .int .i64 rt, .string rd] 35))
            have hs2 := HB01.out.size
            clear b1 b2
            go_wp2_with (first | (at_builtin; refine wpList_append_own _ rfl _ _ 23 rfl w.heap.size 35 i0 (.agg #[.int .i64 0, .int .i64 0, .string ByteArray.empty]) 3 32 Try.underlying23 hi hz0 hz1 hz2 rfl (by decide) _ _ _ rfl HO2.out ⟨w2.heap.size + 1, 0, none⟩ 1 1 [.int .i64 (base + (ln : Int)), .int .i64 rt, .string rd] (by simp [go_sem]) rfl (news_two _ _ _ _ _ _) (by simp [Value.oneCell']) (by unfold maxLen; omega) (by omega) (by simp; omega) ?_; intro v3 w3 hown3 hgrow3 hnil3; have HO3 := Lib.hid hown3; have HP3 := Lib.hid (World.ownsRow.kept HP2.out hgrow3 (own_unlike HP2.out HO2.out (by decide))); have HB3 := Lib.hid (HBB.out.grown hgrow3 (by simp; omega) (fun p hp => (HO.out.lt p hp).1)); have hs3 := HB3.out.size; clear hown3 hgrow3 hnil3; have HP4 := Lib.hid (HP3.out.alloc (.cells #[.int .i64 k] 3)); have HO4 := Lib.hid (HO3.out.alloc (.cells #[.int .i64 k] 3)); have HB4 := Lib.hid (HB3.out.alloc hs3 (.cells #[.int .i64 k] 3))) | (at_builtin; refine wpList_append_own _ rfl _ _ 42 rfl w.heap.size 3 i1 (.int .i64 0) 1 8 Try.underlying42 hj hy0 hy1 hy2 rfl (by decide) _ _ _ rfl HP4.out ⟨w3.heap.size, 0, none⟩ 1 1 [.int .i64 k] (by simp [go_sem]) rfl (news_new w3 _ [.int .i64 k] 3 rfl) (by simp [Value.oneCell']) (by unfold maxLen; omega) (by omega) (by simp; omega) ?_; intro v5 w5 hown5 hgrow5 hnil5))
            go_roundw
            case rel => exact ⟨ps ++ [(⟨base + (ln : Int), rt, rd⟩, k)], q, hq2, rfl, by rw [HSL.out, HSF.out, recVals_snoc]; exact World.ownsRow.kept HO4.out hgrow5 (own_unlike HO4.out HP4.out (by decide)), by rw [HSL.out, HSS.out, NL.vals_append]; exact hown5, HST.out, HSG.out, HB4.out.grown hgrow5 (by simp; omega) (fun p hp => (HP.out.lt p hp).1)⟩
            case measure => simp [intOf]; omega
          · have HV := Lib.hid (HFU.out.trans (HR.out.form (by rw [HL.out]; exact hlt) hnx ha))
            have haw : ¬ r.a = base + (ln : Int) := by rw [← hln]; exact ha
            have hae : (r.a == base + (ln : Int)) = false := by simpa using haw
            clear he hg hok hnx h5 h6 h6' h7 h8 h7b hq hbl hbd hO hP ha
            have HE := Lib.hid fun (W : World) (h1 : W.ownsRow w.heap.size 35 3 (.slice va ps.length vc) ps.length (recVals (ps.map Prod.fst))) (h2 : W.ownsRow w.heap.size 3 1 u9 ps.length (NL.vals (ps.map Prod.snd))) (h3 : Below w.heap.size w W) => places_end (Nat.le_trans hk hs) HG.out h1 h2 HV.out h3
            rw [hln] at HE HO HP ⊢
            clear hln
            go_wp2_with fail
            refine (C.out _).mono ?_
            rintro e w1 ⟨rfl, b1⟩
            go_wp2_with fail
            refine (D.out _).mono ?_
            rintro e w2 ⟨rfl, b2⟩
            have HB12 := Lib.hid (bel_trans2 b1 b2)
            have HB01 := Lib.hid (HB.out.trans (HB12.out.mono hsz))
            have HF := Lib.hid (HE.out _ ((own_below HO.out HB12.out).alloc (.cells #[.int .i64 r.a, .int .i64 r.t, .string r.d] 35)) ((own_below HP.out HB12.out).alloc (.cells #[.int .i64 r.a, .int .i64 r.t, .string r.d] 35)) (HB01.out.alloc HB01.out.size (.cells #[.int .i64 r.a, .int .i64 r.t, .string r.d] 35)))
            clear b1 b2
            go_wp2_with fail
            refine bodyPost_ret (v := .tuple #[.slice va ln vc, u9, .int .i64 k, .int .i64 3]) (by simp [results, Try.results21, go_sem]) rfl ?_
            exact HF.out
    · have HV := Lib.hid (HFU.out.trans (HR.out.done (by rw [HL.out]; omega)))
      have HF := Lib.hid (places_end (Nat.le_trans hk hs) HG.out HO.out HP.out HV.out hb)
      clear hO hP
      go_wp2_with fail
      refine bodyPost_ret (v := .tuple #[u8, u9, .int .i64 k, .int .i64 0]) (by simp [results, Try.results21, go_sem]) rfl ?_
      exact HF.out

theorem rplaces_any (s : ByteArray) (base : Int) (w : World) (hs : s.size ≤ 4398046511104) (h1 : -9223372036854775808 ≤ base) (h2 : base ≤ 9223372036854775807) :
    Calls Try.prog 21 #[.string s, .int .i64 base] w (PlacesOut w (Gp.full s.data.toList base)) := by
  by_cases h : base < 0 ∨ 1099511627776 < base
  · exact rplaces_out s base w h h1 h2
  · exact rplaces_in s base w hs (by omega) (by omega)

/-- What both Scans answer. -/
def ScanOut (w : World) (F : List (Rp.Rec × Nat) × Nat × Int) (e : Ending) (w' : World) : Prop :=
  ∃ v, e = .returned (.tuple #[v, .int .i64 (F.2.1 : Nat), .int .i64 F.2.2]) ∧ IsRecs w' v (F.1.map Prod.fst) ∧ Below w.heap.size w w'

set_option maxRecDepth 100000 in
set_option maxHeartbeats 800000 in
theorem rscan9_any (s : ByteArray) (base : Int) (w : World) (hs : s.size ≤ 4398046511104) (h1 : -9223372036854775808 ≤ base) (h2 : base ≤ 9223372036854775807) :
    Calls Try.prog 9 #[.string s, .int .i64 base] w (ScanOut w (Gp.full s.data.toList base)) := by
  have P := Lib.hid (rplaces_any s base w hs h1 h2)
  generalize Gp.full s.data.toList base = F at *
  go_enter Try.func9, Try.ntmps9
  go_wp2_with fail
  refine P.out.mono ?_
  rintro e w1 ⟨v, vp, rfl, hv, hp, b1⟩
  have HF := Lib.hid (show ScanOut w F (.returned (.tuple #[v, .int .i64 (F.2.1 : Nat), .int .i64 F.2.2])) w1 from ⟨v, rfl, hv, b1⟩)
  clear hv hp b1
  go_wp2_with fail
  go_ret3
  exact HF.out

theorem rec_at {w : World} {fa : Option Addr} {fn fc : Nat} {rs : List Rp.Rec} (h : IsRecs w (.slice fa fn fc) rs) {i : Nat} (hi : i < fn) :
    fn = rs.length ∧ ∃ b off, fa = some ⟨b, off, none⟩ ∧ w.cell? ⟨b, off + i * 3, none⟩ = some (.int .i64 (rs.getD i Rp.zero).a) ∧ w.cell? ⟨b, off + i * 3 + 1, none⟩ = some (.int .i64 (rs.getD i Rp.zero).t) ∧ w.cell? ⟨b, off + i * 3 + 2, none⟩ = some (.string (rs.getD i Rp.zero).d) := by
  obtain ⟨a', cap', e, _, _, h3⟩ := h
  injection e with e1 e2 e3
  refine ⟨e2, ?_⟩
  rcases h3 with h3 | ⟨b, off, h4, h5⟩
  · rw [h3] at e2; simp at e2; omega
  · subst e1
    subst h4
    obtain ⟨c0, c1, c2⟩ := h5 i (by omega)
    exact ⟨b, off, rfl, c0, c1, c2⟩
theorem recs_len {w : World} {fa : Option Addr} {fn fc : Nat} {rs : List Rp.Rec} (h : IsRecs w (.slice fa fn fc) rs) : fn = rs.length ∧ rs.length ≤ maxLen := by
  obtain ⟨a', cap', e, h1, _, _⟩ := h
  injection e with e1 e2 e3
  exact ⟨e2, h1⟩
theorem map_getD {α β : Type} (f : α → β) (l : List α) (i : Nat) (z : α) : (l.map f).getD i (f z) = f (l.getD i z) := by
  rw [List.getD_eq_getElem?_getD, List.getD_eq_getElem?_getD, List.getElem?_map]
  cases l[i]? <;> rfl

end Go.Proofs.Ytfodcgipdhppmaa

namespace Go.Proofs.Ytfodcgipdhppmaa
open Go.RowKit Go.Proofs.Ytfodcgipdhppmaa.Mks

theorem ix_ok {l : List UInt8} {b every : Int} {k : Nat} {ps : List (Rp.Rec × Nat)} (h : Gp.Good l b 0 ps k) (hb : 0 ≤ b) (hb1 : b ≤ 1099511627776) (hk : k ≤ 4398046511104) {n : Nat} (hn : n ≤ ps.length) : ∀ m ∈ Gp.ix ps b every n, MkB m := by
  intro m hm
  obtain ⟨i, hi, rfl⟩ := Gp.ix_mem hm
  have hf := h.few
  rw [Gp.getD_ps (show i < ps.length by omega)]
  have := (h.lo i (by omega)).2
  exact ⟨⟨by show _ ≤ b + (i : Int); omega, by show b + (i : Int) ≤ _; omega⟩, by show _ ≤ ((ps[i].2 : Nat) : Int); omega, by show ((ps[i].2 : Nat) : Int) ≤ _; omega⟩

set_option maxRecDepth 100000 in
set_option maxHeartbeats 1600000 in
theorem rindex9_any (s : ByteArray) (base every : Int) (w : World) (hs0 : s.size ≤ 1000000000) (h1 : -9223372036854775808 ≤ base) (h2 : base ≤ 9223372036854775807) (h3 : 1 ≤ every) (h4 : every ≤ 9223372036854775807) :
    Calls Try.prog 13 #[.string s, .int .i64 base, .int .i64 every] w (OutL ML w w.heap.size (Gp.ix (Gp.full s.data.toList base).1 base every (Gp.full s.data.toList base).1.length)) := by
  have hs : s.size ≤ 4398046511104 := by omega
  have P := rplaces_any s base w hs h1 h2
  obtain ⟨ps, k, er, hF, hg, hin, _, _⟩ := Gp.full_good s.data.toList base
  rw [hF] at P ⊢
  have HL := Lib.hid (show s.data.toList.length = s.size from rfl)
  have hks : k ≤ s.size ∨ k = 0 := hg.le
  have hkk : k ≤ 4398046511104 := by omega
  have hfew := hg.few
  have HG := Lib.hid hg
  have HIN := Lib.hid hin
  dsimp only at P ⊢
  replace P := Lib.hid P
  clear hF hg hin
  go_enter Try.func13, Try.ntmps13
  go_wp2_with fail
  refine P.out.mono ?_
  rintro e w1 ⟨v, vp, rfl, hv, hp, b1⟩
  obtain ⟨pa, pn, pc, rfl⟩ : ∃ a n c, vp = .slice a n c := by obtain ⟨a, c, h, _⟩ := hp; exact ⟨a, _, c, h⟩
  have hpl := hp.len.1
  rw [List.length_map] at hpl
  have HP := Lib.hid hp
  have HB1 := Lib.hid b1
  clear hv hp b1
  dsimp only
  go_wp2_with fail
  go_loopw [11, 12] (fun x i wr => ∃ j : Nat, j ≤ pn ∧ i = .int .i64 j ∧ OwnL ML wr w.heap.size x (Gp.ix ps base every j) ∧ Below w.heap.size w wr ∧ Below w1.heap.size w1 wr) (fun _ i _ => pn - (intOf i).toNat)
  case atStart => exact ⟨0, Nat.zero_le _, rfl, OwnL.nil _ _, HB1.out, Below.refl _ _⟩
  case round =>
    obtain ⟨j, hj, rfl, hO, hb, hb1⟩ := hrel
    have HO := Lib.hid hO
    have hsz := hb.size
    by_cases hlt : j < pn
    · have hne : ps ≠ [] := fun h => by rw [h] at hpl; simp at hpl; omega
      have hi1 := Rp.inB_yes (HIN.out hne)
      obtain ⟨hi1, hi2⟩ := hi1
      obtain ⟨g, off, rfl, c0⟩ := nl_at (HP.out.keep hb1) hlt
      rw [map_getD Prod.snd ps j (Rp.zero, 0)] at c0
      have hxl := Gp.ix_len ps base every j
      have hps : (ps.getD j (Rp.zero, 0)).2 ≤ 4398046511104 := by
        have := (HG.out.lo j (by omega)).2
        show (ps.getD j Gp.pz).2 ≤ _
        rw [Gp.getD_ps (show j < ps.length by omega)]
        omega
      have AD := radd08_any u11 (Gp.ix ps base every j) base every ⟨base + (j : Int), ((ps.getD j (Rp.zero, 0)).2 : Nat)⟩ wr (hO.is (by unfold maxLen; omega) (ix_ok HG.out hi1 hi2 hkk (by omega))) (own_nil hO) (by omega) hi1 (by show base ≤ base + (j : Int); omega) h3 (by show base + (j : Int) ≤ _; omega) h4
      have HX := Lib.hid (show Mp.add (Gp.ix ps base every j) base every ⟨base + (j : Int), ((ps.getD j (Rp.zero, 0)).2 : Nat)⟩ = Gp.ix ps base every (j + 1) from rfl)
      rw [HX.out] at AD
      unfold mkVal at AD
      dsimp only at AD
      generalize (ps.getD j (Rp.zero, 0)).2 = pj at *
      replace AD := Lib.hid AD
      have HBW := Lib.hid hb
      have HBW1 := Lib.hid hb1
      clear hO hb hb1 hne
      go_wp2_with fail
      refine AD.out.mono ?_
      rintro e w2 ⟨v2, rfl, ho2, b2⟩
      have HO2 := Lib.hid (own_lo ho2 hsz)
      have HB2 := Lib.hid (HBW.out.trans (b2.mono hsz))
      have HB21 := Lib.hid (HBW1.out.trans (b2.mono HBW1.out.size))
      clear ho2 b2
      go_wp2_with fail
      go_roundw
      case rel => exact ⟨j + 1, by omega, by go_num, HO2.out, HB2.out, HB21.out⟩
      case measure => simp [intOf]; omega
    · obtain rfl : j = pn := by omega
      rw [hpl] at hO
      have HF := Lib.hid (OutL.mk hO hb)
      clear hO
      go_wp2_with fail
      go_ret
      exact HF.out

/-- What both Reads answer. -/
def rdVal9 (ps : List (Rp.Rec × Nat)) (b off : Int) : Value := .tuple #[recVal (Gp.rd ps b off).1, .int .i64 (Gp.rd ps b off).2]

theorem frozenK {W : World} {k : Nat} {T : TypeId} {cs : Array Value} (h : W.heap[k]? = some (.cells cs T (0, 0))) : W.frozen? ⟨k, 0, none⟩ = false ∧ W.frozen? ⟨k, 1, none⟩ = false ∧ W.frozen? ⟨k, 2, none⟩ = false := by
  refine ⟨?_, ?_, ?_⟩ <;> (unfold World.frozen?; rw [h]; rfl)
theorem cells3 {W : World} {k : Nat} {T : TypeId} {x y z : Value} (h : W.heap[k]? = some (.cells #[x, y, z] T (0, 0))) : W.cell? ⟨k, 0, none⟩ = some x ∧ W.cell? ⟨k, 1, none⟩ = some y ∧ W.cell? ⟨k, 2, none⟩ = some z :=
  ⟨by rw [cell_of_row _ _ 0 _ _ _ h]; rfl, by rw [cell_of_row _ _ 1 _ _ _ h]; rfl, by rw [cell_of_row _ _ 2 _ _ _ h]; rfl⟩
theorem bel_st3 {base k : Nat} {w W : World} (h : Below base w W) (hk : base ≤ k) (x y z : Value) : Below base w (((W.setCell ⟨k, 0, none⟩ x).setCell ⟨k, 1, none⟩ y).setCell ⟨k, 2, none⟩ z) :=
  ((h.setCell (p := ⟨k, 0, none⟩) hk x).setCell (p := ⟨k, 1, none⟩) hk y).setCell (p := ⟨k, 2, none⟩) hk z

set_option maxRecDepth 100000 in
set_option maxHeartbeats 1600000 in
theorem rread9_any (s : ByteArray) (base off : Int) (w : World) (hs : s.size ≤ 4398046511104) (h1 : -9223372036854775808 ≤ base) (h2 : base ≤ 9223372036854775807) :
    Calls Try.prog 15 #[.string s, .int .i64 base, .int .i64 off] w fun e w' => e = .returned (rdVal9 (Gp.full s.data.toList base).1 base off) ∧ Below w.heap.size w w' := by
  have P := fun (W : World) => rscan9_any s base W hs h1 h2
  obtain ⟨ps, k, er, hF, hg, hin, _, _⟩ := Gp.full_good s.data.toList base
  rw [hF] at P ⊢
  have HL := Lib.hid (show s.data.toList.length = s.size from rfl)
  have hks : k ≤ s.size ∨ k = 0 := hg.le
  have hkk : k ≤ 4398046511104 := by omega
  have hfew := hg.few
  have HNO := Lib.hid (show (∀ j : Nat, j < ps.length → base + (j : Int) ≠ off) → rdVal9 ps base off = .tuple #[.agg #[.int .i64 0, .int .i64 0, .string ⟨#[]⟩], .int .i64 6] from fun h => by
    unfold rdVal9
    rw [Gp.rd_out (by
      rcases Int.lt_or_le off base with h0 | h0
      · exact .inl h0
      · rcases Int.lt_or_le off (base + ps.length) with h5 | h5
        · exact absurd (by omega) (h (off - base).toNat (by omega))
        · exact .inr h5)]
    rfl)
  have HYES := Lib.hid (show ∀ j : Nat, j < ps.length → base + (j : Int) = off → rdVal9 ps base off = .tuple #[.agg #[.int .i64 (ps.getD j Gp.pz).1.a, .int .i64 (ps.getD j Gp.pz).1.t, .string (ps.getD j Gp.pz).1.d], .int .i64 0] ∧ (ps.getD j Gp.pz).1.a = off from fun j hj he => by
    subst he
    unfold rdVal9
    rw [Gp.rd_in ps base hj, Gp.getD_ps hj]
    exact ⟨rfl, hg.at_ j hj⟩)
  have HAT := Lib.hid (show ∀ j : Nat, j < ps.length → (ps.getD j Gp.pz).1.a = base + j from fun j hj => by rw [Gp.getD_ps hj]; exact hg.at_ j hj)
  have HA := Lib.hid ((Below.refl w.heap.size w).alloc (Nat.le_refl _) (.cells #[.int .i64 0, .int .i64 0, .string ⟨#[]⟩] 35))
  have G0 := Lib.hid (heap_alloc_new w (.cells #[.int .i64 0, .int .i64 0, .string ⟨#[]⟩] 35))
  have hbb : ps ≠ [] → base ≤ 1099511627776 := fun h => (Rp.inB_yes (hin h)).2
  have HBB := Lib.hid hbb
  dsimp only at P ⊢
  replace P := Lib.hid P
  generalize rdVal9 ps base off = V at *
  clear hF hg hin hbb
  go_enter Try.func15, Try.ntmps15
  go_wp2_with fail
  generalize World.alloc w _ = w0 at HA G0 ⊢
  refine (P.out _).mono ?_
  rintro e w1 ⟨v, rfl, hv, b1⟩
  obtain ⟨va, vn, vc, rfl⟩ : ∃ a n c, v = .slice a n c := by obtain ⟨a, c, h, _⟩ := hv; exact ⟨a, _, c, h⟩
  have hvl := (recs_len hv).1
  rw [List.length_map] at hvl
  have HV := Lib.hid hv
  have HB1 := Lib.hid (HA.out.trans (b1.mono HA.out.size))
  have G1 := Lib.hid ((b1.block w.heap.size (Array.getElem?_eq_some_iff.1 G0.out).1).trans G0.out)
  have hwl := (Array.getElem?_eq_some_iff.1 G1.out).1
  obtain ⟨f0, f1, f2⟩ := frozenK G1.out
  obtain ⟨z0, z1, z2⟩ := cells3 G1.out
  clear hv b1 G0 HA
  dsimp only
  go_wp2_with fail
  go_loopw [11] (fun i wr => ∃ j : Nat, j ≤ vn ∧ i = .int .i64 j ∧ (∀ i : Nat, i < j → base + (i : Int) ≠ off) ∧ wr = w1) (fun i _ => vn - (intOf i).toNat)
  case atStart => exact ⟨0, Nat.zero_le _, rfl, fun i hi => absurd hi (Nat.not_lt_zero i), rfl⟩
  case round =>
    obtain ⟨j, hj, rfl, hall, rfl⟩ := hrel
    have HALL := Lib.hid hall
    clear hall
    by_cases hlt : j < vn
    · obtain ⟨_, g, o, rfl, c0, c1, c2⟩ := rec_at HV.out hlt
      have e0 : (ps.map Prod.fst).getD j Rp.zero = (ps.getD j Gp.pz).1 := map_getD Prod.fst ps j Gp.pz
      rw [e0] at c0 c1 c2
      clear e0
      by_cases ho : base + (j : Int) = off
      · obtain ⟨hy, hy2⟩ := HYES.out j (by omega) ho
        rw [hy2] at hy c0
        have HY := Lib.hid hy
        clear hy hy2 ho
        generalize (ps.getD j Gp.pz).1 = r at *
        go_wp2_with fail
        refine bodyPost_ret (v := .tuple #[.agg #[.int .i64 off, .int .i64 r.t, .string r.d], .int .i64 0]) (by simp [results, Try.results15, go_sem, z0, z1, z2]) rfl ?_
        exact ⟨by rw [HY.out], bel_st3 HB1.out (Nat.le_refl _) _ _ _⟩
      · have hat := HAT.out j (by omega)
        rw [hat] at c0
        have hne : (base + (j : Int) == off) = false := by simpa using ho
        have HNX := Lib.hid (show ∀ i : Nat, i < j + 1 → base + (i : Int) ≠ off from fun i hi => by
          by_cases e : i = j
          · subst e; exact ho
          · exact HALL.out i (by omega))
        clear hat
        go_wp2_with fail
        go_roundw
        case rel => exact ⟨j + 1, by omega, by go_num, HNX.out, by first | rfl | trivial⟩
        case measure => simp [intOf]; omega
    · have HV2 := Lib.hid (HNO.out fun i hi => HALL.out i (by omega))
      go_wp2_with fail
      refine bodyPost_ret (v := .tuple #[.agg #[.int .i64 0, .int .i64 0, .string ⟨#[]⟩], .int .i64 6]) (by simp [results, Try.results15, go_sem, z0, z1, z2]) rfl ?_
      exact ⟨by rw [HV2.out], bel_st3 HB1.out (Nat.le_refl _) _ _ _⟩

/-- What both Indexes answer. -/
def IdxOut (w : World) (L : List Mp.Mk) (e : Ending) (w' : World) : Prop := ∃ v, e = .returned v ∧ IsL ML w' v L ∧ Below w.heap.size w w'
theorem rindex9_got (s : ByteArray) (base every : Int) (w : World) (hs0 : s.size ≤ 1000000000) (h1 : -9223372036854775808 ≤ base) (h2 : base ≤ 9223372036854775807) (h3 : 1 ≤ every) (h4 : every ≤ 9223372036854775807) :
    Calls Try.prog 13 #[.string s, .int .i64 base, .int .i64 every] w (IdxOut w (Gp.ix (Gp.full s.data.toList base).1 base every (Gp.full s.data.toList base).1.length)) := by
  refine (rindex9_any s base every w hs0 h1 h2 h3 h4).mono ?_
  rintro e w' ⟨v, rfl, ho, hb⟩
  refine ⟨v, rfl, ho.is ?_ ?_, hb⟩
  · obtain ⟨ps, k, er, hF, hg, _, _, _⟩ := Gp.full_good s.data.toList base
    rw [hF]
    have := Gp.ix_len ps base every ps.length
    have := hg.few
    have := hg.le
    have : s.data.toList.length = s.size := rfl
    unfold maxLen
    show (Gp.ix ps base every ps.length).length ≤ _
    omega
  · obtain ⟨ps, k, er, hF, hg, hin, _, _⟩ := Gp.full_good s.data.toList base
    rw [hF]
    show ∀ m ∈ Gp.ix ps base every ps.length, MkB m
    by_cases h0 : ps = []
    · subst h0
      intro m hm
      obtain ⟨i, hi, _⟩ := Gp.ix_mem hm
      simp at hi
    · have hi := Rp.inB_yes (hin h0)
      have := hg.le
      have : s.data.toList.length = s.size := rfl
      exact ix_ok hg hi.1 hi.2 (by omega) (Nat.le_refl _)

end Go.Proofs.Ytfodcgipdhppmaa
