/-
  Parts of what the laws of this seat stand on: FoldTake, FoldStep, FoldRight.
-/
import Derived.Test.YtijbpdpkoamhbaaGreatQa1
import Derived.Laws.StructEq
import Derived.Lib.Strings
import Derived.Outline
import Derived.Test.YtijbpdpkoamhbaaGreatQa28
import Derived.Test.YtijbpdpkoamhbaaGreatQa31
set_option maxRecDepth 100000
set_option maxHeartbeats 6400000
namespace Go.Proofs.YtijbpdpkoamhbaaGreat
section
open Go.RowKit
theorem key_at (s : ByteArray) (h : 0 < s.size) : Fp.key s = s[0] := by
 unfold Fp.key
 rw [List.headD_eq_head?_getD, List.head?_eq_getElem?, Array.getElem?_toList, Array.getElem?_eq_getElem (by exact h)]
 rfl
theorem emp_no {s : ByteArray} (h : 0 < s.size) : s.toList.isEmpty = false := by
 rw [Lib.toList_data]
 have e : s.data.toList.length = s.size := rfl
 cases hd : s.data.toList with
 | nil => rw [hd] at e; simp at e; omega
 | cons a b => rfl
theorem emp_yes {s : ByteArray} (h : s.size = 0) : s.toList.isEmpty = true := by
 rw [Lib.toList_data]
 have e : s.data.toList.length = s.size := rfl
 cases hd : s.data.toList with
 | nil => rfl
 | cons a b => rw [hd] at e; simp at e; omega
theorem take_zero (l : List Fp.Pr) (base : Nat) (v : Value) (s : ByteArray) (w : World) (ho : Own w base v l) (hs : s.size = 0) :
 Calls Tryz.prog 97 #[v, .string s] w (OwnOut w base (Fp.step l s)) := by
 have hE := emp_yes hs
 have HF := zid (show OwnOut w base (Fp.step l s) (.returned v) w by rw [Fp.step_zero l hs]; exact OwnOut.mk ho (Below.refl _ _))
 clear ho hs
 go_enter Tryz.func97, Tryz.ntmps97
 go_wp2_with fail
 go_ret
 exact HF.out
theorem take_one (l : List Fp.Pr) (base : Nat) (v : Value) (s : ByteArray) (w : World) (ho : Own w base v l) (hbw : base ≤ w.heap.size) (hu : Fp.Up l) (hv : ∀ p ∈ l, p.v.size ≤ 9223372036854775807) (hs : s.size = 1) :
 Calls Tryz.prog 97 #[v, .string s] w (OwnOut w base (Fp.step l s)) := by
 have h0 : 0 < s.size := by omega
 have hl := hu.len
 have K := key_at s h0
 have S := zid fun (W : World) (h : Own W base v l) => search_any v l s[0] W hu (h.is (by unfold maxLen; omega) hv)
 have hE := emp_no h0
 have hE2 : (s.extract 1 s.size).toList.isEmpty = true := emp_yes (by simp; omega)
 have HO := zid ho
 have HD := zid fun i (h : Fp.Found l s[0] i true) => Fp.step_del (s := s) (by rw [K]; exact h) hu hs
 have HN := zid fun i (h : Fp.Found l s[0] i false) => Fp.step_none (s := s) (by rw [K]; exact h) hu hs
 have HB := zid hbw
 clear ho hu hv hs K hbw
 go_enter Tryz.func97, Tryz.ntmps97
 go_wp2_with fail
 go_quiet (fail)
 go_wp2_with fail
 have HO0 := zid (HO.out.below (bel_drewN nq))
 have B0 := zid ((bel_drewN (w := w) nq).mono HB.out)
 generalize w.drewN nq = w0 at HO0 B0 ⊢
 refine (S.out w0 HO0.out).mono ?_
 rintro e w1 ⟨i, b, rfl, hf, b1⟩
 have HO1 := zid (HO0.out.below b1)
 have B1 := zid (B0.out.trans (b1.mono (Nat.le_trans HB.out B0.out.size)))
 clear b1
 rcases b with _ | _
 · have HF := zid (show OwnOut w base (Fp.step l s) (.returned v) w1 by rw [HN.out i hf]; exact OwnOut.mk HO1.out B1.out)
   clear hf
   go_wp2_with fail
   go_ret
   exact HF.out
 · have hi := (hf.hit rfl).1
   have HF := zid (HD.out i hf)
   clear hf
   go_wp2_with fail
   refine (del_any l base i v w1 HO1.out hi).mono ?_
   rintro e w2 ⟨v2, rfl, ho2, b2⟩
   have HG := zid (show OwnOut w base (Fp.step l s) (.returned v2) w2 by rw [HF.out]; exact OwnOut.mk ho2 (B1.out.trans b2))
   clear ho2 b2
   go_wp2_with fail
   go_ret
   exact HG.out
theorem own_set {w : World} {base g cap i : Nat} {cur : Array Value} {l : List Fp.Pr} {x : ByteArray} {k : UInt8} (hb : base ≤ g) (hg : w.heap[g]? = some (.cells cur 88 (0, 0))) (hc : l.length ≤ cap) (hm : cap ≤ maxLen) (hs : cur.size = cap * 2) (ht : cur.toList.take (l.length * 2) = prVals l)
 (hi : i < l.length) (hk : (l.getD i Fp.zero).k = k) : Own (w.setCell ⟨g, i * 2 + 1, none⟩ (.string x)) base (.slice (some ⟨g, 0, none⟩) l.length cap) (l.set i ⟨k, x⟩) := by
 have e1 : (l.set i ⟨k, x⟩).length = l.length := by simp
 rw [← e1]
 refine Own.mk hb (heap_setCell_same w g (i * 2 + 1) cur _ (.string x) hg) (by rw [e1]; exact hc) hm (by simpa using hs) ?_
 rw [e1, Array.toList_setIfInBounds, List.take_set, ht, prVals_set l i x hi, hk]
theorem take_more (l : List Fp.Pr) (base : Nat) (v : Value) (s : ByteArray) (w : World) (ho : Own w base v l) (hbw : base ≤ w.heap.size) (hu : Fp.Up l) (hv : ∀ p ∈ l, p.v.size ≤ 9223372036854775807) (hs : 1 < s.size) :
 Calls Tryz.prog 97 #[v, .string s] w (OwnOut w base (Fp.step l s)) := by
 have h0 : 0 < s.size := by omega
 have hl := hu.len
 have K := key_at s h0
 have S := zid fun (W : World) (h : Own W base v l) => search_any v l s[0] W hu (h.is (by unfold maxLen; omega) hv)
 have hE := emp_no h0
 have hE2 : (s.extract 1 s.size).toList.isEmpty = false := emp_no (by simp; omega)
 have HO := zid ho
 have HD := zid fun i (h : Fp.Found l s[0] i true) => Fp.step_set (s := s) (by rw [K]; exact h) hu hs
 have HN := zid fun i (h : Fp.Found l s[0] i false) => Fp.step_ins (s := s) (by rw [K]; exact h) hu hs
 rw [K] at HD HN
 unfold Fp.val at HD HN
 have HB := zid hbw
 have hs1 : (1 : Int) ≤ (s.size : Int) := by omega
 clear ho hu hv hs K hbw
 go_enter Tryz.func97, Tryz.ntmps97
 go_wp2_with fail
 go_quiet (fail)
 go_wp2_with fail
 have HO0 := zid (HO.out.below (bel_drewN nq))
 have B0 := zid ((bel_drewN (w := w) nq).mono HB.out)
 generalize w.drewN nq = w0 at HO0 B0 ⊢
 refine (S.out w0 HO0.out).mono ?_
 rintro e w1 ⟨i, b, rfl, hf, b1⟩
 have HO1 := zid (HO0.out.below b1)
 have B1 := zid (B0.out.trans (b1.mono (Nat.le_trans HB.out B0.out.size)))
 clear b1
 rcases b with _ | _
 · have hi := hf.le
   have HF := zid (HN.out i hf)
   clear hf
   go_wp2_with fail
   have hbw1 := Nat.le_trans HB.out B1.out.size
   refine (ins_any l base i v s[0] (s.extract 1 s.size) w1.heap.size _ (World.ownsRow.alloc HO1.out _) hi hl (Nat.le_trans hbw1 (by simp)) (heap_alloc_new w1 _) (fun e => absurd (World.ownsRow.lt HO1.out _ e).2 (Nat.lt_irrefl _))).mono ?_
   rintro e w2 ⟨v2, rfl, ho2, b2⟩
   have HG := zid (show OwnOut w base (Fp.step l s) (.returned v2) w2 by rw [HF.out]; exact OwnOut.mk ho2 ((B1.out.alloc hbw1 _).trans b2))
   clear ho2 b2
   go_wp2_with fail
   go_ret
   exact HG.out
 · obtain ⟨hi, hk⟩ := hf.hit rfl
   have HF := zid (HD.out i hf)
   clear hf
   rw [← getD_pr hi] at hk
   obtain ⟨g, cap, cur, rfl, hb, hg, hc, hm, hs, ht⟩ := HO1.out.open_ (by omega)
   have HS := zid (own_set (x := s.extract 1 s.size) hb hg hc hm hs ht hi hk)
   have HB2 := zid (B1.out.setCell (p := ⟨g, i * 2 + 1, none⟩) hb (.string (s.extract 1 s.size)))
   have HG := zid (show OwnOut w base (Fp.step l s) (.returned (.slice (some ⟨g, 0, none⟩) l.length cap)) (w1.setCell ⟨g, i * 2 + 1, none⟩ (.string (s.extract 1 s.size))) by rw [HF.out]; exact OwnOut.mk HS.out HB2.out)
   obtain ⟨z, hz⟩ := Option.isSome_iff_exists.1 (row_some hg (i * 2 + 1) (by omega)).1
   have hz2 := (row_some hg (i * 2 + 1) (by omega)).2
   clear hk hg hs ht HS HB2 hb
   generalize l.length = len at *
   go_wp2_with fail
   go_ret
   exact HG.out
theorem take_any (l : List Fp.Pr) (base : Nat) (v : Value) (s : ByteArray) (w : World) (ho : Own w base v l) (hbw : base ≤ w.heap.size) (hu : Fp.Up l) (hv : ∀ p ∈ l, p.v.size ≤ 9223372036854775807) :
 Calls Tryz.prog 97 #[v, .string s] w (OwnOut w base (Fp.step l s)) := by
 rcases Nat.lt_or_ge 1 s.size with h | h
 · exact take_more l base v s w ho hbw hu hv h
 · by_cases h0 : s.size = 0
   · exact take_zero l base v s w ho h0
   · exact take_one l base v s w ho hbw hu hv (by omega)
theorem prs_cells {w : World} {b off : Nat} {l : List Fp.Pr} (h : ∀ i, i < l.length → w.cell? ⟨b, off + i * 2, none⟩ = some (.int .u8 ((l.getD i Fp.zero).k.toNat : Int)) ∧ w.cell? ⟨b, off + i * 2 + 1, none⟩ = some (.string (l.getD i Fp.zero).v)) :
 ∀ j u, (prVals l)[j]? = some u → w.cell? ((⟨b, off, none⟩ : Addr).add j) = some u := by
 intro j u hj
 have hjl := (List.getElem?_eq_some_iff.1 hj).1
 rw [prVals_len] at hjl
 rw [addr_plain]
 obtain ⟨c0, c1⟩ := h (j / 2) (by omega)
 obtain ⟨d0, d1⟩ := prVals_get l (j / 2) (by omega)
 rcases Nat.mod_two_eq_zero_or_one j with hm | hm
 · rw [show off + j = off + j / 2 * 2 from by omega, c0, ← d0, show j / 2 * 2 = j from by omega, hj]
 · rw [show off + j = off + j / 2 * 2 + 1 from by omega, c1, ← d1, show j / 2 * 2 + 1 = j from by omega, hj]
theorem clone_nil (cap : Nat) (w : World) :
 Calls Tryz.prog 96 #[.slice none 0 cap] w (OwnOut w w.heap.size []) := by
 have q22 : ∀ (w : World) (a : Option Addr) (n c n' c' : Nat), (binOp .eql 43 (.slice a n c) (.slice none n' c')).run Tryz.prog w = .ok (.bool a.isNone) w := fun w a n c n' c' => Lib.run_eql_slice_nil w _ _ a n c n' c' Tryz.underlying43
 have HF := zid (OwnOut.mk (Own.nil w w.heap.size) (Below.refl _ w))
 go_enter Tryz.func96, Tryz.ntmps96
 go_wp2_with fail
 go_ret
 exact HF.out
theorem clone_some (x : Addr) (cap : Nat) (l : List Fp.Pr) (w : World) (hl : l.length ≤ 1000000000000) (hc : ∀ j u, (prVals l)[j]? = some u → w.cell? (x.add j) = some u) :
 Calls Tryz.prog 96 #[.slice (some x) l.length cap] w (OwnOut w w.heap.size l) := by
 obtain ⟨i0, hi0, hz0, hz1, hz2⟩ := info_parts info_pr
 have q22 : ∀ (w : World) (a : Option Addr) (n c n' c' : Nat), (binOp .eql 43 (.slice a n c) (.slice none n' c')).run Tryz.prog w = .ok (.bool a.isNone) w := fun w a n c n' c' => Lib.run_eql_slice_nil w _ _ a n c n' c' Tryz.underlying43
 have HC : Hid (∀ j u, (prVals l)[j]? = some u → (w.alloc (.cells #[] 88)).cell? (x.add j) = some u) := fun j u hj => Lib.cell?_alloc_some _ (hc j u hj)
 have H1 := zid (prVals_one l)
 have HL := zid (prVals_len l)
 have HF : Hid (∀ v' w3, w3.ownsRow w.heap.size 88 2 v' (0 + l.length) ([] ++ prVals l) → (w.alloc (.cells #[] 88)).grownBy w3 (some w.heap.size) → OwnOut w w.heap.size l (.returned v') w3) := by
  intro v' w3 h hg
  rw [Nat.zero_add, List.nil_append] at h
  exact OwnOut.mk h (((Below.refl _ w).alloc (Nat.le_refl _) _).grown hg (by simp) (fun k hk => by injection hk with hk; omega))
 have hown := zid (World.ownsRow_made (e := 88) (size := 2) w #[] 0 (Nat.le_refl _) (Nat.zero_le _) (by simp))
 clear hc
 generalize prVals l = xs at *
 generalize l.length = len at *
 go_enter Tryz.func96, Tryz.ntmps96
 go_wp2_with (at_builtin; refine wpList_append_own _ rfl _ _ 43 rfl w.heap.size 88 i0 (.agg #[.int .u8 0, .string ByteArray.empty]) 2 24 Tryz.underlying43 hi0 hz0 hz1 hz2 rfl (by decide) _ _ _ rfl hown.out x len cap xs rfl HL.out HC.out H1.out (by unfold maxLen; omega) (by omega) (by simp) ?_; intro v' w3 hown' hgrow3 hnil3)
 go_ret
 exact HF.out v' w3 hown' hgrow3
theorem clone_any (v : Value) (l : List Fp.Pr) (w : World) (h : IsPrs w v l) (hl : l.length ≤ 1000000000000) :
 Calls Tryz.prog 96 #[v] w (OwnOut w w.heap.size l) := by
 obtain ⟨a, cap, rfl, _, _, h3⟩ := h
 rcases h3 with rfl | ⟨b, off, rfl, h4⟩
 · cases a with
   | none => exact clone_nil cap w
   | some x => exact clone_some x cap [] w (by simp) (by simp [prVals])
 · exact clone_some ⟨b, off, none⟩ cap l w hl (prs_cells h4)
theorem step_big {l : List Fp.Pr} {s : ByteArray} {m : Nat} (h : ∀ p ∈ l, p.v.size ≤ m) (hs : s.size ≤ m) : ∀ p ∈ Fp.step l s, p.v.size ≤ m := by
 intro p hp
 by_cases h0 : s.size = 0
 · rw [Fp.step_zero l h0] at hp; exact h p hp
 · rcases (Fp.mem_step h0).1 hp with ⟨h1, _⟩ | ⟨rfl, _⟩
   · exact h p h1
   · show (s.extract 1 s.size).size ≤ m
     rw [ByteArray.size_extract]
     omega
theorem getD_rec {rs : List Rp.Rec} {k : Nat} (h : k < rs.length) : rs.getD k Rp.zero = rs[k] := by simp [List.getD_eq_getElem?_getD, h]
structure FoldIn (w : World) (l : List Fp.Pr) (rs : List Rp.Rec) (k : Nat) (v : Value) (wr : World) : Prop where
 own : Own wr w.heap.size v (Fp.fold l ((rs.take k).map (·.d)))
 up : Fp.Up (Fp.fold l ((rs.take k).map (·.d)))
 big : ∀ p ∈ Fp.fold l ((rs.take k).map (·.d)), p.v.size ≤ 9223372036854775807
 bel : Below w.heap.size w wr
theorem fold_take {l : List Fp.Pr} {rs : List Rp.Rec} {k : Nat} (hk : k < rs.length) : Fp.fold l ((rs.take (k + 1)).map (·.d)) = Fp.step (Fp.fold l ((rs.take k).map (·.d))) (rs.getD k Rp.zero).d := by
 rw [List.take_succ_eq_append_getElem hk, List.map_append, ← getD_rec hk]
 exact Fp.fold_snoc _ _ _
theorem fold_some (v : Value) (l : List Fp.Pr) (rs : List Rp.Rec) (b off cap : Nat) (w : World) (h : IsPrs w v l) (hu : Fp.Up l) (hm : rs.length ≤ 9223372036854775807) (hs : ∀ r ∈ rs, RecOk r)
 (hc : ∀ i, i < rs.length → w.cell? ⟨b, off + i * 3, none⟩ = some (.int .i64 (rs.getD i Rp.zero).a) ∧ w.cell? ⟨b, off + i * 3 + 1, none⟩ = some (.int .i64 (rs.getD i Rp.zero).t) ∧ w.cell? ⟨b, off + i * 3 + 2, none⟩ = some (.string (rs.getD i Rp.zero).d)) :
 Calls Tryz.prog 51 #[v, .slice (some ⟨b, off, none⟩) rs.length cap] w (OwnOut w w.heap.size (Fp.fold l (rs.map (·.d)))) := by
 have hl := hu.len
 have hv : ∀ p ∈ l, p.v.size ≤ 9223372036854775807 := by obtain ⟨_, _, _, _, hv, _⟩ := h; exact hv
 have C := zid (clone_any v l w h (by omega))
 have HU := zid hu
 have HV := zid hv
 have HC := zid hc
 have HS := zid fun (k : Nat) (hk : k < rs.length) => (hs _ (by rw [getD_rec hk]; exact List.getElem_mem _ : rs.getD k Rp.zero ∈ rs)).d1
 clear h hu hv hl hc hs
 obtain ⟨len, hlen⟩ : ∃ len, rs.length = len := ⟨_, rfl⟩
 rw [hlen] at HC hm ⊢
 have HL := zid hlen
 clear hlen
 go_enter Tryz.func51, Tryz.ntmps51
 go_wp2_with fail
 refine C.out.mono ?_
 rintro e w1 ⟨v1, rfl, ho, b1⟩
 have HI : Hid (FoldIn w l rs 0 v1 w1) := ⟨ho, HU.out, HV.out, b1⟩
 clear ho b1
 go_wp2_with fail
 go_loopw [5, 12] (fun x i wr => ∃ k : Nat, k ≤ len ∧ i = .int .i64 k ∧ FoldIn w l rs k x wr) (fun _ i _ => len - (intOf i).toNat)
 case atStart => exact ⟨0, Nat.zero_le _, rfl, HI.out⟩
 case round =>
  obtain ⟨k, hk, rfl, hr⟩ := hrel
  have HR := zid hr
  clear hr
  by_cases hlt : k < len
  · have hlt' : k < rs.length := by rw [HL.out]; exact hlt
    have bel := HR.out.bel
    obtain ⟨c0, c1, c2⟩ := HC.out k hlt
    have hbb := block_lt_of_cell c0
    have z0 : wr.cell? ⟨b, off + k * 3, none⟩ = some (.int .i64 (rs.getD k Rp.zero).a) := by rw [bel.cell (p := ⟨b, off + k * 3, none⟩) hbb]; exact c0
    have z1 : wr.cell? ⟨b, off + k * 3 + 1, none⟩ = some (.int .i64 (rs.getD k Rp.zero).t) := by rw [bel.cell (p := ⟨b, off + k * 3 + 1, none⟩) hbb]; exact c1
    have z2 : wr.cell? ⟨b, off + k * 3 + 2, none⟩ = some (.string (rs.getD k Rp.zero).d) := by rw [bel.cell (p := ⟨b, off + k * 3 + 2, none⟩) hbb]; exact c2
    clear c0 c1 c2
    have HT := zid (@fold_take l rs k hlt')
    have HD := zid (HS.out k hlt')
    have HSZ := zid bel.size
    clear bel hlt'
    generalize rs.getD k Rp.zero = r at *
    go_wp2_with fail
    have bel2 := zid (HR.out.bel.alloc HSZ.out (.cells #[.int .i64 r.a, .int .i64 r.t, .string r.d] 47))
    refine (take_any _ w.heap.size _ r.d _ (World.ownsRow.alloc HR.out.own _) bel2.out.size HR.out.up HR.out.big).mono ?_
    rintro e w2 ⟨v2, rfl, ho2, b2⟩
    have HI2 : Hid (FoldIn w l rs (k + 1) v2 w2) := ⟨by rw [HT.out]; exact ho2, by rw [HT.out]; exact HR.out.up.step _, by rw [HT.out]; exact step_big HR.out.big HD.out, bel2.out.trans b2⟩
    clear ho2 b2
    go_wp2_with fail
    go_roundw
    case rel => exact ⟨k + 1, by omega, by go_num, HI2.out⟩
    case measure => simp [intOf]; omega
  · have hall : rs.take k = rs := List.take_of_length_le (by rw [HL.out]; omega)
    have HF : Hid (∀ x, FoldIn w l rs k x wr → OwnOut w w.heap.size (Fp.fold l (rs.map (·.d))) (.returned x) wr) := by
     intro x hx
     have := hx.own
     rw [hall] at this
     exact OwnOut.mk this hx.bel
    clear hall
    go_wp2_with fail
    go_ret
    exact HF.out _ HR.out
theorem fold_none (v : Value) (l : List Fp.Pr) (a : Option Addr) (cap : Nat) (w : World) (h : IsPrs w v l) (hu : Fp.Up l) :
 Calls Tryz.prog 51 #[v, .slice a 0 cap] w (OwnOut w w.heap.size l) := by
 have hl := hu.len
 have C := zid (clone_any v l w h (by omega))
 clear h hu hl
 go_enter Tryz.func51, Tryz.ntmps51
 go_wp2_with fail
 refine C.out.mono ?_
 rintro e w1 ⟨v1, rfl, ho, b1⟩
 have HG := zid (OwnOut.mk ho b1)
 clear ho b1
 go_wp2_with fail
 refine wp_loop_rounds 1 ?_
 rw [rounds_succ]
 go_wp2_with fail
 go_ret
 exact HG.out
theorem fold_any (v : Value) (l : List Fp.Pr) (vr : Value) (rs : List Rp.Rec) (w : World) (h : IsPrs w v l) (hu : Fp.Up l) (hr : IsRecs w vr rs) :
 Calls Tryz.prog 51 #[v, vr] w (OwnOut w w.heap.size (Fp.fold l (rs.map (·.d)))) := by
 obtain ⟨a, cap, rfl, hm, hs, h3⟩ := hr
 rcases h3 with rfl | ⟨b, off, rfl, h4⟩
 · exact fold_none v l a cap w h hu
 · exact fold_some v l rs b off cap w h hu (by unfold maxLen at hm; omega) hs h4
def Ch (l : List Fp.Pr) (k : Nat) : Prop := (∀ i, i < k → Fp.OkV (l.getD i Fp.zero).v) ∧ ∀ i, i + 1 < k → (l.getD i Fp.zero).k.toNat < (l.getD (i + 1) Fp.zero).k.toNat
theorem Ch.zero (l : List Fp.Pr) : Ch l 0 := ⟨fun i h => by omega, fun i h => by omega⟩
theorem Ch.one {l : List Fp.Pr} (h : Fp.OkV (l.getD 0 Fp.zero).v) : Ch l 1 := by
 refine ⟨fun i hi => ?_, fun i h => by omega⟩
 obtain rfl : i = 0 := by omega
 exact h
theorem Ch.next {l : List Fp.Pr} {k : Nat} (h : Ch l (k + 1)) (h1 : Fp.OkV (l.getD (k + 1) Fp.zero).v) (h2 : (l.getD k Fp.zero).k.toNat < (l.getD (k + 1) Fp.zero).k.toNat) : Ch l (k + 1 + 1) := by
 refine ⟨fun i hi => ?_, fun i hi => ?_⟩
 · rcases Nat.lt_or_ge i (k + 1) with h3 | h3
   · exact h.1 i h3
   · obtain rfl : i = k + 1 := by omega
     exact h1
 · rcases Nat.lt_or_ge (i + 1) (k + 1) with h3 | h3
   · exact h.2 i h3
   · obtain rfl : i = k := by omega
     exact h2
theorem Ch.st {l : List Fp.Pr} (h : Ch l l.length) : Fp.St l := by
 have up : ∀ j, j < l.length → ∀ i, i < j → (l.getD i Fp.zero).k.toNat < (l.getD j Fp.zero).k.toNat := by
  intro j
  induction j with
  | zero => intro _ i hi; omega
  | succ j ih =>
   intro hj i hi
   have h1 := h.2 j hj
   rcases Nat.lt_or_ge i j with h2 | h2
   · have := ih (by omega) i h2; omega
   · obtain rfl : i = j := by omega
     exact h1
 refine ⟨fun p hp => ?_, ?_⟩
 · obtain ⟨i, hi, rfl⟩ := List.getElem_of_mem hp
   rw [← getD_pr hi]
   exact h.1 i hi
 · unfold Fp.Up
   rw [List.pairwise_iff_getElem]
   intro i j hi hj hij
   rw [← getD_pr hi, ← getD_pr hj]
   exact up j hj i hij
theorem st_val {l : List Fp.Pr} (h : Fp.St l) {k : Nat} (hk : k < l.length) : Fp.OkV (l.getD k Fp.zero).v := by
 rw [getD_pr hk]
 exact h.1 _ (List.getElem_mem _)
theorem st_up {l : List Fp.Pr} (h : Fp.St l) {k : Nat} (hk : k + 1 < l.length) : (l.getD k Fp.zero).k.toNat < (l.getD (k + 1) Fp.zero).k.toNat := by
 rw [getD_pr hk, getD_pr (by omega)]
 exact h.2.at hk (by omega)
theorem right_some (l : List Fp.Pr) (b off cap : Nat) (w : World) (hm : l.length ≤ 9223372036854775807)
 (hc : ∀ i, i < l.length → w.cell? ⟨b, off + i * 2, none⟩ = some (.int .u8 ((l.getD i Fp.zero).k.toNat : Int)) ∧ w.cell? ⟨b, off + i * 2 + 1, none⟩ = some (.string (l.getD i Fp.zero).v)) :
 Calls Tryz.prog 95 #[.slice (some ⟨b, off, none⟩) l.length cap] w fun e w' => e = .returned (.bool (Fp.stB l)) ∧ Below w.heap.size w w' := by
 have HC := zid hc
 have HY := zid fun (h : Ch l l.length) => Fp.stB_yes h.st
 have HV := zid fun (k : Nat) (hk : k < l.length) (h : ¬ Fp.OkV (l.getD k Fp.zero).v) => Fp.stB_no fun hs => h (st_val hs hk)
 have HU := zid fun (k : Nat) (hk : k + 1 < l.length) (h : ¬ (l.getD k Fp.zero).k.toNat < (l.getD (k + 1) Fp.zero).k.toNat) => Fp.stB_no fun hs => h (st_up hs hk)
 clear hc
 generalize Fp.stB l = B at *
 obtain ⟨len, hlen⟩ : ∃ len, l.length = len := ⟨_, rfl⟩
 rw [hlen] at HC HY HV HU hm ⊢
 clear hlen
 go_enter Tryz.func95, Tryz.ntmps95
 go_wp2_with fail
 go_loopw [7] (fun i wr => ∃ k : Nat, k ≤ len ∧ i = .int .i64 k ∧ Ch l k ∧ Below w.heap.size w wr) (fun i _ => len - (intOf i).toNat)
 case atStart => exact ⟨0, Nat.zero_le _, rfl, Ch.zero l, Below.refl _ _⟩
 case round =>
  obtain ⟨k, hk, rfl, hch, bel⟩ := hrel
  have HCH := zid hch
  clear hch
  by_cases hlt : k < len
  · obtain ⟨c0, c1⟩ := HC.out k hlt
    have hbb := block_lt_of_cell c0
    have z0 : wr.cell? ⟨b, off + k * 2, none⟩ = some (.int .u8 ((l.getD k Fp.zero).k.toNat : Int)) := by rw [bel.cell (p := ⟨b, off + k * 2, none⟩) hbb]; exact c0
    have z1 : wr.cell? ⟨b, off + k * 2 + 1, none⟩ = some (.string (l.getD k Fp.zero).v) := by rw [bel.cell (p := ⟨b, off + k * 2 + 1, none⟩) hbb]; exact c1
    clear c0 c1
    have HVK := zid (HV.out k hlt)
    have belA := zid fun o => bel.alloc bel.size o
    have hbw := Nat.lt_of_lt_of_le hbb bel.size
    by_cases hok : Fp.OkV (l.getD k Fp.zero).v
    · have ho1 : (1 : Int) ≤ ((l.getD k Fp.zero).v.size : Int) := by have := hok.1; omega
      have ho2 : ((l.getD k Fp.zero).v.size : Int) ≤ 63 := by have := hok.2; omega
      have HOK := zid hok
      clear hok
      rcases k with _ | j
      · have HN := zid (Ch.one HOK.out)
        rw [Nat.zero_mul, Nat.add_zero] at z0 z1
        generalize l.getD 0 Fp.zero = p at *
        go_wp2_with fail
        go_quiet (fail)
        go_wp2_with fail
        go_roundw
        case rel => exact ⟨1, by omega, by go_num, HN.out, ((belA.out _).trans ((bel_drewN _).mono (belA.out _).size))⟩
        case measure => simp [intOf]; omega
      · obtain ⟨d0, _⟩ := HC.out j (by omega)
        have y0 : wr.cell? ⟨b, off + j * 2, none⟩ = some (.int .u8 ((l.getD j Fp.zero).k.toNat : Int)) := by rw [bel.cell (p := ⟨b, off + j * 2, none⟩) hbb]; exact d0
        clear d0
        have HN := zid fun h => HCH.out.next HOK.out h
        have HNO := zid fun h => HU.out j hlt h
        generalize l.getD (j + 1) Fp.zero = p at *
        generalize l.getD j Fp.zero = q at *
        by_cases hup : q.k.toNat < p.k.toNat
        · have HN2 := zid (HN.out hup)
          have hd : decide (p.k.toNat ≤ q.k.toNat) = false := by simp; omega
          clear hup
          go_wp2_with fail
          go_quiet (fail)
          go_wp2_with fail
          go_roundw
          case rel => exact ⟨j + 1 + 1, by omega, by go_num, HN2.out, ((belA.out _).trans ((bel_drewN _).mono (belA.out _).size))⟩
          case measure => simp [intOf]; omega
        · have HF := zid (HNO.out hup)
          have hd : decide (p.k.toNat ≤ q.k.toNat) = true := by simp; omega
          clear hup
          go_wp2_with fail
          go_quiet (fail)
          go_wp2_with fail
          go_ret
          exact ⟨by rw [HF.out]; rfl, ((belA.out _).trans ((bel_drewN _).mono (belA.out _).size))⟩
    · have HF := zid (HVK.out hok)
      unfold Fp.OkV at hok
      generalize l.getD k Fp.zero = p at *
      by_cases h1 : 1 ≤ p.v.size
      · have h2 : (63 : Int) < (p.v.size : Int) := by omega
        have h3 : (1 : Int) ≤ (p.v.size : Int) := by omega
        clear hok h1
        go_wp2_with fail
        go_ret
        exact ⟨by rw [HF.out]; rfl, belA.out _⟩
      · have h2 : (p.v.size : Int) < 1 := by omega
        clear hok h1
        go_wp2_with fail
        go_ret
        exact ⟨by rw [HF.out]; rfl, belA.out _⟩
  · obtain rfl : k = len := by omega
    have HF := zid (HY.out HCH.out)
    go_wp2_with fail
    go_ret
    exact ⟨by rw [HF.out]; rfl, bel⟩
theorem right_none (a : Option Addr) (cap : Nat) (w : World) :
 Calls Tryz.prog 95 #[.slice a 0 cap] w fun e w' => e = .returned (.bool true) ∧ Below w.heap.size w w' := by
 go_enter Tryz.func95, Tryz.ntmps95
 go_wp2_with fail
 refine wp_loop_rounds 1 ?_
 rw [rounds_succ]
 go_wp2_with fail
 go_ret
 exact ⟨rfl, Below.refl _ _⟩
theorem fright_any (v : Value) (l : List Fp.Pr) (w : World) (h : IsPrs w v l) :
 Calls Tryz.prog 95 #[v] w fun e w' => e = .returned (.bool (Fp.stB l)) ∧ Below w.heap.size w w' := by
 obtain ⟨a, cap, rfl, hm, _, h3⟩ := h
 rcases h3 with rfl | ⟨b, off, rfl, h4⟩
 · rw [Fp.stB_yes Fp.St.nil]
   exact right_none a cap w
 · exact right_some l b off cap w (by unfold maxLen at hm; omega) h4
theorem rright_some (l : List Fp.Pr) (b off cap : Nat) (w : World) (hm : l.length ≤ 9223372036854775807)
 (hc : ∀ i, i < l.length → w.cell? ⟨b, off + i * 2, none⟩ = some (.int .u8 ((l.getD i Fp.zero).k.toNat : Int)) ∧ w.cell? ⟨b, off + i * 2 + 1, none⟩ = some (.string (l.getD i Fp.zero).v)) :
 Calls Tryz.prog 102 #[.slice (some ⟨b, off, none⟩) l.length cap] w fun e w' => e = .returned (.bool (Fp.stB l)) ∧ Below w.heap.size w w' := by
 have HC := zid hc
 have HY := zid fun (h : Ch l l.length) => Fp.stB_yes h.st
 have HV := zid fun (k : Nat) (hk : k < l.length) (h : ¬ Fp.OkV (l.getD k Fp.zero).v) => Fp.stB_no fun hs => h (st_val hs hk)
 have HU := zid fun (k : Nat) (hk : k + 1 < l.length) (h : ¬ (l.getD k Fp.zero).k.toNat < (l.getD (k + 1) Fp.zero).k.toNat) => Fp.stB_no fun hs => h (st_up hs hk)
 clear hc
 generalize Fp.stB l = B at *
 obtain ⟨len, hlen⟩ : ∃ len, l.length = len := ⟨_, rfl⟩
 rw [hlen] at HC HY HV HU hm ⊢
 clear hlen
 go_enter Tryz.func102, Tryz.ntmps102
 go_wp2_with fail
 go_loopw [3] (fun i wr => ∃ k n : Nat, k ≤ len ∧ i = .int .i64 k ∧ Ch l k ∧ wr = w.drewN n) (fun i _ => len - (intOf i).toNat)
 case atStart => exact ⟨0, 0, Nat.zero_le _, rfl, Ch.zero l, rfl⟩
 case round =>
  obtain ⟨k, n, hk, rfl, hch, rfl⟩ := hrel
  have HCH := zid hch
  clear hch
  by_cases hlt : k < len
  · obtain ⟨z0, z1⟩ := HC.out k hlt
    have HVK := zid (HV.out k hlt)
    by_cases hok : Fp.OkV (l.getD k Fp.zero).v
    · have ho1 : (1 : Int) ≤ ((l.getD k Fp.zero).v.size : Int) := by have := hok.1; omega
      have ho2 : ((l.getD k Fp.zero).v.size : Int) ≤ 63 := by have := hok.2; omega
      have HOK := zid hok
      clear hok
      rcases k with _ | j
      · have HN := zid (Ch.one HOK.out)
        rw [Nat.zero_mul, Nat.add_zero] at z0 z1
        generalize l.getD 0 Fp.zero = p at *
        have g1 : decide ((p.v.size : Int) < 1) = false := by simp; omega
        have g2 : decide ((63 : Int) < (p.v.size : Int)) = false := by simp; omega
        go_wp2_with fail
        go_quiet (fail)
        go_wp2_with fail
        go_roundw
        case rel => exact ⟨1, _, by omega, by go_num, HN.out, rfl⟩
        case measure => simp [intOf]; omega
      · obtain ⟨y0, _⟩ := HC.out j (by omega)
        have HN := zid fun h => HCH.out.next HOK.out h
        have HNO := zid fun h => HU.out j hlt h
        generalize l.getD (j + 1) Fp.zero = p at *
        generalize l.getD j Fp.zero = q at *
        have g1 : decide ((p.v.size : Int) < 1) = false := by simp; omega
        have g2 : decide ((63 : Int) < (p.v.size : Int)) = false := by simp; omega
        by_cases hup : q.k.toNat < p.k.toNat
        · have HN2 := zid (HN.out hup)
          have hd : decide (p.k.toNat ≤ q.k.toNat) = false := by simp; omega
          clear hup
          go_wp2_with fail
          go_quiet (fail)
          go_wp2_with fail
          go_roundw
          case rel => exact ⟨j + 1 + 1, _, by omega, by go_num, HN2.out, rfl⟩
          case measure => simp [intOf]; omega
        · have HF := zid (HNO.out hup)
          have hd : decide (p.k.toNat ≤ q.k.toNat) = true := by simp; omega
          clear hup
          go_wp2_with fail
          go_quiet (fail)
          go_wp2_with fail
          go_ret
          exact ⟨by rw [HF.out]; rfl, bel_trans2 (bel_drewN n) (bel_drewN _)⟩
    · have HF := zid (HVK.out hok)
      unfold Fp.OkV at hok
      generalize l.getD k Fp.zero = p at *
      by_cases h1 : 1 ≤ p.v.size
      · have g1 : decide ((p.v.size : Int) < 1) = false := by simp; omega
        have g2 : decide ((63 : Int) < (p.v.size : Int)) = true := by simp; omega
        clear hok h1
        go_wp2_with fail
        go_quiet (fail)
        go_wp2_with fail
        go_ret
        exact ⟨by rw [HF.out]; rfl, bel_trans2 (bel_drewN n) (bel_drewN _)⟩
      · have g1 : decide ((p.v.size : Int) < 1) = true := by simp; omega
        clear hok h1
        go_wp2_with fail
        go_quiet (fail)
        go_wp2_with fail
        go_ret
        exact ⟨by rw [HF.out]; rfl, bel_trans2 (bel_drewN n) (bel_drewN _)⟩
  · obtain rfl : k = len := by omega
    have HF := zid (HY.out HCH.out)
    go_wp2_with fail
    go_ret
    exact ⟨by rw [HF.out]; rfl, bel_drewN n⟩
theorem rright_none (a : Option Addr) (cap : Nat) (w : World) :
 Calls Tryz.prog 102 #[.slice a 0 cap] w fun e w' => e = .returned (.bool true) ∧ Below w.heap.size w w' := by
 go_enter Tryz.func102, Tryz.ntmps102
 go_wp2_with fail
 refine wp_loop_rounds 1 ?_
 rw [rounds_succ]
 go_wp2_with fail
 go_ret
 exact ⟨rfl, Below.refl _ _⟩
theorem rfright_any (v : Value) (l : List Fp.Pr) (w : World) (h : IsPrs w v l) :
 Calls Tryz.prog 102 #[v] w fun e w' => e = .returned (.bool (Fp.stB l)) ∧ Below w.heap.size w w' := by
 obtain ⟨a, cap, rfl, hm, _, h3⟩ := h
 rcases h3 with rfl | ⟨b, off, rfl, h4⟩
 · rw [Fp.stB_yes Fp.St.nil]
   exact rright_none a cap w
 · exact rright_some l b off cap w (by unfold maxLen at hm; omega) h4
theorem fsame_none (a b : Option Addr) (c d : Nat) (w : World) :
 Calls Tryz.prog 15 #[.slice a 0 c, .slice b 0 d] w fun e w' => e = .returned (.bool true) ∧ ∃ n, w' = w.drewN n := by
 go_enter Tryz.func15, Tryz.ntmps15
 go_wp2_with fail
 refine wp_loop_rounds 1 ?_
 rw [rounds_succ]
 go_wp2_with fail
 go_ret
 exact ⟨rfl, 0, rfl⟩
theorem fsame_some (l : List Fp.Pr) (a b o1 o2 c d : Nat) (w : World) (hm : l.length ≤ 9223372036854775807)
 (hc1 : ∀ i, i < l.length → w.cell? ⟨a, o1 + i * 2, none⟩ = some (.int .u8 ((l.getD i Fp.zero).k.toNat : Int)) ∧ w.cell? ⟨a, o1 + i * 2 + 1, none⟩ = some (.string (l.getD i Fp.zero).v))
 (hc2 : ∀ i, i < l.length → w.cell? ⟨b, o2 + i * 2, none⟩ = some (.int .u8 ((l.getD i Fp.zero).k.toNat : Int)) ∧ w.cell? ⟨b, o2 + i * 2 + 1, none⟩ = some (.string (l.getD i Fp.zero).v)) :
 Calls Tryz.prog 15 #[.slice (some ⟨a, o1, none⟩) l.length c, .slice (some ⟨b, o2, none⟩) l.length d] w fun e w' => e = .returned (.bool true) ∧ ∃ n, w' = w.drewN n := by
 have HC1 := zid hc1
 have HC2 := zid hc2
 clear hc1 hc2
 generalize l.length = len at *
 go_enter Tryz.func15, Tryz.ntmps15
 go_wp2_with fail
 go_loopw [5] (fun i wr => ∃ k n : Nat, k ≤ len ∧ i = .int .i64 k ∧ wr = w.drewN n) (fun i _ => len - (intOf i).toNat)
 case atStart => exact ⟨0, 0, Nat.zero_le _, rfl, rfl⟩
 case round =>
  obtain ⟨k, n, hk, rfl, rfl⟩ := hrel
  by_cases hlt : k < len
  · obtain ⟨c0, c1⟩ := HC1.out k hlt
    obtain ⟨d0, d1⟩ := HC2.out k hlt
    generalize l.getD k Fp.zero = r at *
    go_wp2_with fail
    go_quiet (fail)
    go_wp2_with fail
    go_roundw
    case rel => exact ⟨k + 1, _, by omega, by go_num, rfl⟩
    case measure => simp [intOf]; omega
  · go_wp2_with fail
    go_ret
    exact ⟨rfl, _, rfl⟩
theorem fsame_ex (v1 v2 : Value) (l : List Fp.Pr) (w : World) (h1 : IsPrs w v1 l) (h2 : IsPrs w v2 l) :
 Calls Tryz.prog 15 #[v1, v2] w fun e w' => e = .returned (.bool true) ∧ ∃ n, w' = w.drewN n := by
 obtain ⟨a, c, rfl, m1, _, h3⟩ := h1
 obtain ⟨b, d, rfl, _, _, h4⟩ := h2
 rcases h3 with rfl | ⟨a', o1, rfl, h3⟩
 · exact fsame_none a b c d w
 · rcases h4 with rfl | ⟨b', o2, rfl, h4⟩
   · exact fsame_none _ b c d w
   · exact fsame_some l a' b' o1 o2 c d w (by unfold maxLen at m1; omega) h3 h4
theorem fsame_yes (v1 v2 : Value) (l : List Fp.Pr) (w : World) (h1 : IsPrs w v1 l) (h2 : IsPrs w v2 l) :
 Calls Tryz.prog 15 #[v1, v2] w fun e w' => e = .returned (.bool true) ∧ Below w.heap.size w w' := by
 have key : Calls Tryz.prog 15 #[v1, v2] w fun e w' => e = .returned (.bool true) ∧ ∃ n, w' = w.drewN n := by
  exact fsame_ex v1 v2 l w h1 h2
 refine key.mono ?_
 rintro e w' ⟨rfl, n, rfl⟩
 exact ⟨rfl, bel_drewN n⟩
def fewP (l : List Fp.Pr) : Bool := decide (l.length ≤ 300) && l.all fun p => decide (p.v.size ≤ 100)
theorem fewP_yes {l : List Fp.Pr} (h : l.length ≤ 300) (hs : ∀ i, i < l.length → (l.getD i Fp.zero).v.size ≤ 100) : fewP l = true := by
 unfold fewP
 rw [Bool.and_eq_true, List.all_eq_true]
 refine ⟨decide_eq_true h, fun p hp => ?_⟩
 obtain ⟨i, hi, rfl⟩ := List.getElem_of_mem hp
 rw [← getD_pr hi]
 exact decide_eq_true (hs i hi)
theorem fewP_le {l : List Fp.Pr} (h : fewP l = true) : l.length ≤ 300 := by
 unfold fewP at h
 rw [Bool.and_eq_true] at h
 exact of_decide_eq_true h.1
end
end Go.Proofs.YtijbpdpkoamhbaaGreat
