/-
  The law of what is sure, of acts as a list.
-/
import Derived.Test.YtbkiecjbjehaoaaDiskTwo
namespace Go.Proofs.Ytbkiecjbjehaoaa.Dsk
open Go.RowKit Go.Proofs.Ytbkiecjbjehaoaa.Dp

/-- The kind of the act at a place, in whatever world behind. -/
theorem act_kind {w : World} {g off fn fc : Nat} {l : List Ra} (h : IsActs w (.slice (some ⟨g, off, none⟩) fn fc) l) {k : Nat} (hk : k < fn) : ∀ W, Below w.heap.size w W → W.cell? ⟨g, off + k * 5, none⟩ = some (.int .i64 (l.getD k rzero).x.k) := by
  intro W b
  obtain ⟨_, g', off', e, c0, _⟩ := acts_at h b hk
  obtain ⟨rfl, rfl⟩ : g = g' ∧ off = off' := by simpa using e
  exact c0
/-- What a round's inner loop reads of a file that was sure. -/
theorem sure_facts {D D' : Dk} {a : Dp.Act} {er : Int} (h : Right D) (hk : a.k < 3 ∨ 5 < a.k) (hact : act D a = (D', er)) {m : Nat} (hm : m < D.f.length) :
    ∃ (g : Fl) (q : Nat), get D'.f (D.f.getD m zero).n = some g ∧ (D.f.getD m zero).s = (q : Int) ∧ q ≤ (D.f.getD m zero).d.size ∧ q ≤ g.d.size ∧ g.d.extract 0 q = (D.f.getD m zero).d.extract 0 q := by
  rw [getD_fl hm]
  have hmem : D.f[m] ∈ D.f := List.getElem_mem hm
  obtain ⟨g, hg, _, k2, k3⟩ := act_keeps h hk _ hmem
  rw [hact] at hg
  obtain ⟨_, o1, o2⟩ := h.1 _ hmem
  refine ⟨g, D.f[m].s.toNat, hg, by omega, by omega, by omega, ?_⟩
  rw [ext_iff, ext_take, ext_take]
  exact k3

theorem Sm.crash {D : Dk} (h : Sm D) (ks : List Int) : Sm (crash D ks) :=
  ⟨⟨h.b.1, by show (-9223372036854775808 : Int) ≤ 0; decide, by show (0 : Int) ≤ 9223372036854775807; decide⟩, h.r.crash ks, by show (crashF D.f ks).length ≤ _; rw [crashF_len]; exact h.n, by show used (crashF D.f ks) ≤ _; have := crashF_used D.f ks; have := h.u; omega⟩
/-- What a crash leaves of the file at a place. -/
theorem crash_facts {D : Dk} (h : Sm D) (ks : List Int) {m : Nat} (hm : m < D.f.length) :
    ∃ q : Nat, (crashF D.f ks).getD m zero = ⟨(D.f.getD m zero).n, (D.f.getD m zero).d.extract 0 q, (q : Int)⟩ ∧ (D.f.getD m zero).s ≤ (q : Int) ∧ q ≤ (D.f.getD m zero).d.size := by
  have hc : m < (crashF D.f ks).length := by rw [crashF_len]; exact hm
  rw [getD_fl hc, getD_fl hm, crashF_get D.f ks m hm hc]
  exact left_m (h.r.1 _ (List.getElem_mem hm)) _

theorem boxes2d (w : World) (A B : Array Value) (T U : TypeId) : ((w.alloc (.cells A T)).alloc (.cells B U)).drew.heap[w.heap.size]? = some (.cells A T (0, 0)) ∧ ((w.alloc (.cells A T)).alloc (.cells B U)).drew.heap[w.heap.size + 1]? = some (.cells B U (0, 0)) ∧ Below w.heap.size w ((w.alloc (.cells A T)).alloc (.cells B U)).drew := by
  obtain ⟨h1, h2, h3, _⟩ := boxes2 w A B T U
  exact ⟨h1, h2, h3.drew⟩

set_option maxRecDepth 100000 in
set_option maxHeartbeats 6400000 in
theorem sure_in (v kv : Value) (l : List Ra) (ks : List Int) (w : World) (h : IsActs w v l) (hks : IsL KL w kv ks) :
    Calls Try.prog 5 #[v, kv] w fun e w' => e = .returned (.bool true) ∧ Below w.heap.size w w' := by
  obtain ⟨fa, fn, fc, rfl⟩ : ∃ a n c, v = .slice a n c := by obtain ⟨a, c, h, _⟩ := h.1; exact ⟨a, _, c, h⟩
  obtain ⟨ka, kn, kc, rfl⟩ : ∃ a n c, kv = .slice a n c := by obtain ⟨a, c, h, _⟩ := hks; exact ⟨a, _, c, h⟩
  have HA := Lib.hid h
  have HK := Lib.hid hks
  have S := fun W : World => fun hx : IsL AL W (.slice fa fn fc) l => short_any _ l W hx
  have AW := Lib.hid fun W : World => awake06 W
  have hfn := h.1.len.1
  clear h hks
  by_cases hs : Short l
  · rw [decide_eq_true hs] at S
    replace S := Lib.hid S
    have HS := Lib.hid hs
    have hn60 : fn ≤ 60 := by have := hs.1; omega
    clear hs hfn
    go_enter Try.func5, Try.ntmps5
    go_wp2_with fail
    refine (S.out w HA.out.1).mono ?_
    rintro e w0 ⟨rfl, rfl⟩
    have V0 := Lib.hid (Var.new (W := w) (base := w.heap.size) (v := .slice none 0 0) (D := empty) (OwnL.nil _ _))
    have B0 := Lib.hid ((Below.refl w.heap.size w).alloc (Nat.le_refl _) (.cells #[.slice none 0 0, .int .i64 0, .bool false, .int .i64 0, .bool false] 24))
    unfold Dp.empty at V0
    dsimp only at V0
    go_wp2_with fail
    generalize World.alloc w _ = W0 at V0 B0 ⊢
    go_loopw [6] (fun i wr => ∃ (k : Nat) (v : Value) (D : Dk), k ≤ fn ∧ i = .int .i64 k ∧ Var wr w.heap.size w.heap.size v D ∧ Bd D (k + 1) ∧ Below w.heap.size w wr) (fun i _ => fn - (intOf i).toNat)
    case atStart => exact ⟨0, _, _, Nat.zero_le _, rfl, V0.out, Bd.empty.mono (Nat.zero_le _), B0.out⟩
    case round =>
      obtain ⟨k, v, D, hk, rfl, hV, hB, bel⟩ := hrel
      have HV := Lib.hid hV
      have HB := Lib.hid hB
      have HBel := Lib.hid bel
      have hsz := bel.size
      have hbl := hV.lt
      clear hV hB
      by_cases hlt : k < fn
      · obtain ⟨hok, g, off, rfl, c0, c1, c2, c3, c4⟩ := acts_at HA.out bel hlt
        have hsh := HS.out.at k
        have HR := Lib.hid hok
        have HC := Lib.hid (act_kind HA.out hlt)
        generalize l.getD k rzero = r at *
        obtain ⟨D', er, hact⟩ : ∃ D' er, act D r.x = (D', er) := ⟨_, _, rfl⟩
        have HX := Lib.hid fun (hk : r.x.k < 3 ∨ 5 < r.x.k) (m : Nat) (hm : m < D.f.length) => sure_facts HB.out.r hk hact hm
        have DO := fun W (hv : IsL FL W v D.f) (hr : RaOk W r) => do_any v D r W hv (HB.out.sm (by omega)) hr (by omega)
        rw [hact] at DO
        have BD' : Bd D' (k + 2) := by
          have := HB.out.step (a := r.x) hok.1.2.1.2 hsh.2
          rw [hact] at this
          exact this
        have BD' := Lib.hid BD'
        unfold dkVal raVal at DO
        have DO := Lib.hid DO
        clear hact
        obtain ⟨va, vn, vc, rfl⟩ := own_slice HV.out.l.1
        obtain ⟨p0, p1, p2, p3, p4⟩ := cells5 HV.out.h
        unfold Ra.kv at c4
        have hgl := block_lt_of_cell c0
        go_wp2_with fail
        go_cut [7, 8] (fun p q w2 => ∃ (t : Nat) (v' : Value), p = .pointer (some ⟨t, 0, none⟩) ∧ q = .int .i64 er ∧ w.heap.size ≤ t ∧ Two2 w.heap.size w.heap.size t (.slice va vn vc) v' D D' w w2)
        case first =>
          have V1 := HV.out.keep (Below.refl _ _).drew
          have DO0 := Lib.hid (DO.out wr.drew (V1.l.is (HB.out.sm (by omega))) (HR.out.keep (Below.refl _ _).drew))
          have hzb := ((Below.refl _ wr).alloc (Nat.le_refl _) (.cells #[.slice none 0 0, .int .i64 0, .bool false, .int .i64 0, .bool false] 24)).drew
          have DO1 := Lib.hid (DO.out (wr.alloc (.cells #[.slice none 0 0, .int .i64 0, .bool false, .int .i64 0, .bool false] 24)).drew ((HV.out.keep hzb).l.is (HB.out.sm (by omega))) (HR.out.keep hzb))
          have HZ := Lib.hid (show (wr.alloc (.cells #[.slice none 0 0, .int .i64 0, .bool false, .int .i64 0, .bool false] 24)).drew.heap[wr.heap.size]? = _ from heap_alloc_new wr _)
          have FA := Lib.hid fun v' W' (hk : KeptOr W' wr.drew.heap.size (.slice va vn vc) D.f v' D'.f) (b : Below wr.drew.heap.size wr.drew W') => Two2.after (w := w) V1 hsz hk b HBel.out.drew
          have FB := Lib.hid fun v' W' (hk : KeptOr W' (wr.alloc (.cells #[.slice none 0 0, .int .i64 0, .bool false, .int .i64 0, .bool false] 24)).drew.heap.size (.slice va vn vc) D.f v' D'.f) (b : Below (wr.alloc (.cells #[.slice none 0 0, .int .i64 0, .bool false, .int .i64 0, .bool false] 24)).drew.heap.size _ W') =>
            Two2.before (w := w) (HV.out.keep hzb) ((HV.out.l.to (Nat.le_refl _)).keep hzb) HZ.out (Nat.le_trans hsz hzb.size) (by omega) hk b (HBel.out.trans (hzb.mono hsz)) hsz
          unfold set5 at FB
          have HWR := Lib.hid hsz
          clear V1 hzb DO
          go_region_with (first | ((with_reducible refine DO0.out.mono ?_); rintro e w4 ⟨v4, rfl, hk4, b4⟩; obtain ⟨xa, xn, xc, rfl⟩ := kept_slice hk4 rfl; have HW4 := Lib.hid (show w.heap.size ≤ w4.heap.size from Nat.le_trans hsz b4.size); have HTw := Lib.hid (FA.out (.slice xa xn xc) w4 hk4 b4); clear hk4 b4; unfold dkVal) | ((with_reducible refine DO1.out.mono ?_); rintro e w4 ⟨v4, rfl, hk4, b4⟩; obtain ⟨xa, xn, xc, rfl⟩ := kept_slice hk4 rfl; obtain ⟨q0, q1, q2, q3, q4⟩ := cells5 (hkeep HZ.out b4); obtain ⟨f0, f1, f2, f3, f4⟩ := frozen5 (hkeep HZ.out b4); have HTw := Lib.hid (FB.out (.slice xa xn xc) w4 hk4 b4); clear hk4 b4; unfold dkVal))
          all_goals go_wp2_with fail
          all_goals go_meet
          all_goals
            case rel =>
              first | (with_reducible exact ⟨w4.heap.size, .slice xa xn xc, rfl, rfl, HW4.out, HTw.out⟩) | (with_reducible exact ⟨wr.heap.size, .slice xa xn xc, rfl, rfl, HWR.out, HTw.out⟩)
        case rest =>
          obtain ⟨t, v', rfl, rfl, htw, hT⟩ := hcut
          clear DO
          obtain ⟨xa, xn, xc, rfl⟩ := own_slice hT.tw.n.l.1
          have hSm : Sm D' := BD'.out.sm (by omega)
          have hSm0 : Sm D := HB.out.sm (by omega)
          have HSM := Lib.hid (And.intro hSm hSm0)
          have hvn : vn = D.f.length := (hT.tw.o.l.is hSm0).len.1
          have hvl : vn ≤ 1000000 := by have := hSm0.n; omega
          have HVN := Lib.hid hvn
          have HT := Lib.hid hT
          clear hT p0 p1 p2 p3 p4 c0 c1 c2 c3 c4 hSm hSm0 hvn
          go_wp2_with fail
          go_loopw [9] (fun j wi => ∃ m : Nat, m ≤ vn ∧ j = .int .i64 m ∧ Two2 w.heap.size w.heap.size t (.slice va vn vc) (.slice xa xn xc) D D' w wi) (fun j _ => vn - (intOf j).toNat)
          case atStart => exact ⟨0, Nat.zero_le _, rfl, HT.out⟩
          case round =>
            clear HT
            obtain ⟨m, hm, rfl, hTi⟩ := hrel
            have HTi := Lib.hid hTi
            obtain ⟨d0, d1, d2, d3, d4⟩ := cells5 hTi.tw.o.h
            obtain ⟨p0, p1, p2, p3, p4⟩ := cells5 hTi.tw.n.h
            have hc0 := HC.out wr hTi.tw.b
            have hgl := block_lt_of_cell hc0
            have hwz := hTi.tw.b.size
            have htl := hTi.tw.n.lt
            have hol := hTi.tw.o.lt
            clear hTi
            by_cases hgo : m < vn ∧ m < 100
            · obtain ⟨hml, hm100⟩ := hgo
              obtain ⟨fb, foff, rfl, e0, e1, e2⟩ := isL_at (HTi.out.tw.o.l.is HSM.out.2) hml
              have hxx := HX.out
              by_cases hkk : r.x.k < 3 ∨ 5 < r.x.k
              · obtain ⟨gf, q, hget, hsq, q1, q2, hex⟩ := HX.out hkk m (by rw [← HVN.out]; exact hml)
                generalize D.f.getD m zero = f at *
                have RD := fun (W : World) (hv : IsL FL W (.slice xa xn xc) D'.f) => read_any (.slice xa xn xc) D' f.n W hv HSM.out.1.r.2.1 (by have := HSM.out.1.n; omega)
                rw [readVal_yes hget] at RD
                unfold dkVal at RD
                replace RD := Lib.hid RD
                rw [hsq] at e2
                have Hq := Lib.hid hsq
                have HBX := Lib.hid (heap_alloc_new wr (.cells #[.string f.n, .string f.d, .int .i64 (q : Int)] 43))
                have HBB := Lib.hid ((Below.refl _ wr).alloc (Nat.le_refl _) (.cells #[.string f.n, .string f.d, .int .i64 (q : Int)] 43))
                have HTa := Lib.hid (HTi.out.keep HBB.out)
                have z1 : decide (f.d.size < q) = false := by simpa using q1
                have z2 : decide (gf.d.size < q) = false := by simpa using q2
                have hfl := block_lt_of_cell e0
                clear hget hsq hxx
                rcases hkk with hk3 | hk5
                all_goals
                  go_wp2_with fail
                  refine (RD.out _ (HTa.out.tw.n.l.is HSM.out.1)).mono ?_
                  rintro e w5 ⟨rfl, b5⟩
                  obtain ⟨x0, x1, x2⟩ := cells3 (hkeep HBX.out b5)
                  have HT5 := Lib.hid (HTa.out.keep b5)
                  clear b5 d0 d1 d2 d3 d4 p0 p1 p2 p3 p4 e0 e1 e2
                  go_wp2_with fail
                  go_quiet (fail)
                  go_wp2_with fail
                  go_roundw
                  case rel => exact ⟨m + 1, by omega, by go_num, HT5.out.keep (bel_drewN _)⟩
                  case measure => simp [intOf]; omega
              · have i1 : 3 ≤ r.x.k := by omega
                have i2 : r.x.k ≤ 5 := by omega
                clear hkk
                go_wp2_with fail
                go_roundw
                case rel => exact ⟨m + 1, by omega, by go_num, HTi.out.keep ((Below.refl _ _).alloc (Nat.le_refl _) _)⟩
                case measure => simp [intOf]; omega
            · have hTT := HTi.out
              obtain ⟨f0, f1, f2, f3, f4⟩ := frozen5 hTT.tw.o.h
              have hne := hTT.ne
              have HN := Lib.hid hTT.tw.next
              have HNB := Lib.hid (bel_set5 hTT.tw.b (Nat.le_refl _) (.slice xa xn xc) (.int .i64 D'.c) (.bool D'.a) (.int .i64 D'.l) (.bool D'.x))
              clear hTT hc0
              have hgo' : (m : Int) < (vn : Int) ∧ ¬ ((m : Int) < 100) ∨ ¬ ((m : Int) < (vn : Int)) := by omega
              clear hgo
              rcases hgo' with ⟨i1, i2⟩ | i1
              all_goals
                go_wp2_with fail
                go_roundw
                case rel => exact ⟨k + 1, .slice xa xn xc, D', by omega, by go_num, HN.out, BD'.out, HNB.out⟩
                case measure => simp [intOf]; omega
      · have HSm := HB.out.sm (by omega)
        have HSM := Lib.hid HSm
        have CR := Lib.hid (crash_any v D (.slice ka kn kc) ks wr (HV.out.l.is HSm) HSm (HK.out.keep bel))
        obtain ⟨va, vn, vc, rfl⟩ := own_slice HV.out.l.1
        obtain ⟨p0, p1, p2, p3, p4⟩ := cells5 HV.out.h
        clear HSm
        unfold dkVal crash at CR
        dsimp only at CR
        go_wp2_with fail
        refine CR.out.mono ?_
        rintro e w6 ⟨v6, rfl, ho6, b6⟩
        obtain ⟨ya, yn, yc, rfl⟩ := own_slice ho6
        have HVC := Lib.hid (Var.new (D := crash D ks) (show OwnL FL w6 wr.heap.size (.slice ya yn yc) (crash D ks).f from ho6))
        unfold crash at HVC
        dsimp only at HVC
        have HV6 := Lib.hid (HV.out.keep (b6.alloc b6.size (.cells #[.slice ya yn yc, .int .i64 D.c, .bool false, .int .i64 0, .bool false] 24)))
        have HB6 := Lib.hid (bel.trans ((b6.alloc b6.size (.cells #[.slice ya yn yc, .int .i64 D.c, .bool false, .int .i64 0, .bool false] 24)).mono hsz))
        clear ho6 p0 p1 p2 p3 p4
        obtain ⟨p0, p1, p2, p3, p4⟩ := cells5 (hkeep HV.out.h b6)
        have hol : w.heap.size < w6.heap.size := by have := b6.size; omega
        have HSC := Lib.hid (HSM.out.crash ks)
        have hyn : yn = vn := by
          have h1 := (HVC.out.l.is HSC.out).len.1
          have h2 := (HV6.out.l.is HSM.out).len.1
          have h3 := crashF_len D.f ks
          dsimp only at h1
          omega
        subst hyn
        have HYN := Lib.hid (HV6.out.l.is HSM.out).len.1
        have hyl : yn ≤ 1000000 := by have := HSM.out.n; have := HYN.out; omega
        go_wp2_with fail
        generalize World.alloc w6 _ = W7 at HVC HV6 HB6 ⊢
        obtain ⟨cb, hcb⟩ : ∃ cb, w6.heap.size = cb := ⟨_, rfl⟩
        rw [hcb] at HVC ⊢
        clear hcb p0 p1 p2 p3 p4 hol
        go_loopw [14] (fun j wi => ∃ m : Nat, m ≤ yn ∧ j = .int .i64 m ∧ Below W7.heap.size W7 wi) (fun j _ => yn - (intOf j).toNat)
        case atStart => exact ⟨0, Nat.zero_le _, rfl, Below.refl _ _⟩
        case round =>
          obtain ⟨m, hm, rfl, hb7⟩ := hrel
          have HB7 := Lib.hid hb7
          have VC := HVC.out.keep hb7
          have VD := HV6.out.keep hb7
          obtain ⟨p0, p1, p2, p3, p4⟩ := cells5 VC.h
          obtain ⟨d0, d1, d2, d3, d4⟩ := cells5 VD.h
          have l1 := VC.lt
          have l2 := VD.lt
          by_cases hml : m < yn
          · obtain ⟨fb, foff, rfl, e0, e1, e2⟩ := isL_at (VD.l.is HSM.out) hml
            obtain ⟨gb, goff, rfl, h0, h1, h2⟩ := isL_at (VC.l.is HSC.out) hml
            obtain ⟨q, hq, q1, q2⟩ := crash_facts HSM.out ks (m := m) (by rw [← HYN.out]; exact hml)
            rw [hq] at h0 h1 h2
            dsimp only at h0 h1 h2
            generalize D.f.getD m zero = f at *
            have l3 := block_lt_of_cell e0
            have l4 := block_lt_of_cell h0
            clear hq VC VD
            go_wp2_with fail
            go_cut [15, 16] (fun x y w2 => ∃ pb qb : Nat, x = .pointer (some ⟨pb, 0, none⟩) ∧ y = .pointer (some ⟨qb, 0, none⟩) ∧ w2.heap[pb]? = some (.cells #[.string f.n, .string f.d, .int .i64 f.s] 43 (0, 0)) ∧ w2.heap[qb]? = some (.cells #[.string f.n, .string (f.d.extract 0 q), .int .i64 (q : Int)] 43 (0, 0)) ∧ Below wr.heap.size wr w2)
            case first =>
              have X1 := Lib.hid (boxes2d wr #[.string f.n, .string f.d, .int .i64 f.s] #[.string f.n, .string (f.d.extract 0 q), .int .i64 (q : Int)] 43 43)
              have X2 := Lib.hid (boxes2d wr #[.string f.n, .string (f.d.extract 0 q), .int .i64 (q : Int)] #[.string f.n, .string f.d, .int .i64 f.s] 43 43)
              go_region
              all_goals go_wp2_with fail
              all_goals go_meet
              all_goals
                case rel =>
                  first | (with_reducible exact ⟨wr.heap.size, wr.heap.size + 1, rfl, rfl, X1.out.1, X1.out.2.1, X1.out.2.2⟩) | (with_reducible exact ⟨wr.heap.size + 1, wr.heap.size, rfl, rfl, X2.out.2.1, X2.out.1, X2.out.2.2⟩)
            case rest =>
              obtain ⟨pb, qb, rfl, rfl, hp, hq, hbw⟩ := hcut
              obtain ⟨x0, x1, x2⟩ := cells3 hp
              obtain ⟨y0, y1, y2⟩ := cells3 hq
              obtain ⟨E, hE⟩ : ∃ E, f.d.extract 0 q = E := ⟨_, rfl⟩
              have hEs : E.size = q := by rw [← hE, ByteArray.size_extract]; omega
              rw [hE] at y1
              have z1 : decide (f.d.size < q) = false := by simpa using q2
              have z2 : decide ((q : Int) < f.s) = false := by simpa using q1
              have HBW := Lib.hid hbw
              clear hp hq hbw p0 p1 p2 p3 p4 d0 d1 d2 d3 d4 e0 e1 e2 h0 h1 h2
              go_wp2_with fail
              go_quiet (fail)
              go_wp2_with fail
              go_roundw
              case rel => exact ⟨m + 1, by omega, by go_num, HB7.out.trans ((HBW.out.trans ((bel_drewN _).mono HBW.out.size)).mono HB7.out.size)⟩
              case measure => simp [intOf]; omega
          · have CR2 := Lib.hid fun (W : World) (hb : Below wr.heap.size wr W) => crash_any (.slice ya yn yc) (crash D ks) (.slice ka kn kc) ks W ((VC.keep hb).l.is HSC.out) HSC.out (HK.out.keep ((HB6.out.trans (hb7.mono HB6.out.size)).trans (hb.mono (Nat.le_trans HB6.out.size hb7.size))))
            have HVC2 := Lib.hid VC
            have HBE := Lib.hid (HB6.out.trans (hb7.mono HB6.out.size))
            rw [crash_twice HSM.out.r, show crashF (crash D ks).f ks = (crash D ks).f from congrArg Dk.f (crash_twice HSM.out.r ks ks)] at CR2
            unfold dkVal crash at CR2
            dsimp only at CR2
            have SM := Lib.hid fun (v : Value) (W : World) (h1 : IsL FL W v (crash D ks).f) (h2 : IsL FL W (.slice ya yn yc) (crash D ks).f) => rsame_yes v (.slice ya yn yc) (crash D ks) W h1 h2
            clear VC VD
            go_wp2_with fail
            unfold dkVal crash at SM
            dsimp only at SM
            go_region_with (first | (go_at_call 10; refine (AW.out _).mono ?_; rintro e w5 ⟨rfl, b5⟩; have B5 := Lib.hid (show Below wr.heap.size wr w5 from (by first | exact b5 | exact (Below.refl _ wr).drew.trans b5)); obtain ⟨p0, p1, p2, p3, p4⟩ := cells5 (hkeep HVC2.out.h B5.out); clear b5) | (go_at_call 20; refine (CR2.out _ B5.out).mono ?_; rintro e w6 ⟨v6, rfl, ho6, b6⟩; have B6 := Lib.hid (B5.out.trans (b6.mono B5.out.size)); have HO6 := Lib.hid ho6; obtain ⟨q0, q1, q2, q3, q4⟩ := cells5 (hkeep HVC2.out.h B6.out); clear b6 ho6) | (go_at_call 17; refine (SM.out _ w6 (HO6.out.is (by have := HSC.out.n; unfold maxLen; exact Nat.le_trans this (by decide)) HSC.out.flb) ((HVC2.out.keep B6.out).l.is HSC.out)).mono ?_; rintro e w7 ⟨rfl, b7⟩; have B7 := Lib.hid (B6.out.trans (b7.mono B6.out.size)); clear b7))
            all_goals go_wp2_with fail
            all_goals go_ret
            all_goals exact ⟨rfl, HBE.out.trans (B7.out.mono HBE.out.size)⟩
  · rw [decide_eq_false hs] at S
    replace S := Lib.hid S
    clear hs hfn
    go_enter Try.func5, Try.ntmps5
    go_wp2_with fail
    refine (S.out w HA.out.1).mono ?_
    rintro e w0 ⟨rfl, rfl⟩
    go_wp2_with fail
    refine (AW.out _).mono ?_
    rintro e w5 ⟨rfl, b5⟩
    go_wp2_with fail
    go_ret
    exact ⟨rfl, b5⟩

end Go.Proofs.Ytbkiecjbjehaoaa.Dsk
