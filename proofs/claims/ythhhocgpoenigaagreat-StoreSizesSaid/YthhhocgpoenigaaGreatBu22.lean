/-
  Parts of what the laws of this seat stand on: StoRdd, StoFrom, StoAw.
-/
import Derived.Test.YthhhocgpoenigaaGreatBu10
import Derived.Test.YthhhocgpoenigaaGreatBu15
import Derived.Test.YthhhocgpoenigaaGreatBu20
import Derived.Test.YthhhocgpoenigaaGreatBu21
namespace Go.Proofs.YthhhocgpoenigaaGreat.Sto
open Go.RowKit Go.Proofs.YthhhocgpoenigaaGreat.So Go.Proofs.YthhhocgpoenigaaGreat.Dsk Go.Proofs.YthhhocgpoenigaaGreat.Rts

theorem rec_at {w : World} {a : Option Addr} {n c : Nat} {rs : List Rp.Rec} (h : IsRecs w (.slice a n c) rs) {i : Nat} (hi : i < n) :
    ∃ b off, a = some ⟨b, off, none⟩ ∧ w.cell? ⟨b, off + i * 3, none⟩ = some (.int .i64 (rs.getD i Rp.zero).a) ∧ w.cell? ⟨b, off + i * 3 + 1, none⟩ = some (.int .i64 (rs.getD i Rp.zero).t) ∧ w.cell? ⟨b, off + i * 3 + 2, none⟩ = some (.string (rs.getD i Rp.zero).d) := by
  obtain ⟨a', cap', e, _, _, h3⟩ := h
  injection e with e1 e2 e3
  rcases h3 with h3 | ⟨b, off, h4, h5⟩
  · rw [h3] at e2; simp at e2; omega
  · exact ⟨b, off, by rw [e1, h4], h5 i (by omega)⟩
section
variable {f : Rt.Sg → List Rp.Rec} {l : List Rt.Sg} {o : Int}
/-- No record of the first segments has that offset. -/
def NoneTo (f : Rt.Sg → List Rp.Rec) (l : List Rt.Sg) (o : Int) (i : Nat) : Prop := ∀ g ∈ l.take i, ∀ r ∈ f g, r.a ≠ o
def NoneIn (rs : List Rp.Rec) (o : Int) (k : Nat) : Prop := ∀ r ∈ rs.take k, r.a ≠ o
theorem NoneIn.next {rs : List Rp.Rec} {k : Nat} (h : NoneIn rs o k) (hk : k < rs.length) (hn : (rs.getD k Rp.zero).a ≠ o) : NoneIn rs o (k + 1) := by
  intro r hr
  rw [List.take_succ_eq_append_getElem hk, List.mem_append] at hr
  rcases hr with hr | hr
  · exact h r hr
  · rw [List.mem_singleton] at hr; subst hr
    rwa [getD_lt hk] at hn
theorem NoneTo.next {i : Nat} (h : NoneTo f l o i) (hi : i < l.length) (hn : NoneIn (f (l.getD i Rt.zero)) o (f (l.getD i Rt.zero)).length) : NoneTo f l o (i + 1) := by
  intro g hg
  rw [List.take_succ_eq_append_getElem hi, List.mem_append] at hg
  rcases hg with hg | hg
  · exact h g hg
  · rw [List.mem_singleton] at hg; subst hg
    intro r hr
    rw [getD_lt hi] at hn
    exact hn r (by rw [List.take_length]; exact hr)
theorem NoneTo.all {i : Nat} (h : NoneTo f l o i) (hi : l.length ≤ i) : (l.flatMap f).find? (fun r => decide (r.a = o)) = none := by
  rw [List.find?_eq_none]
  intro r hr
  rw [List.mem_flatMap] at hr
  obtain ⟨g, hg, hr⟩ := hr
  simpa using h g (by rw [List.take_of_length_le hi]; exact hg) r hr
theorem NoneTo.hit {i k : Nat} (h : NoneTo f l o i) (hi : i < l.length) (h2 : NoneIn (f (l.getD i Rt.zero)) o k) (hk : k < (f (l.getD i Rt.zero)).length) (h3 : ((f (l.getD i Rt.zero)).getD k Rp.zero).a = o) :
    (l.flatMap f).find? (fun r => decide (r.a = o)) = some ((f (l.getD i Rt.zero)).getD k Rp.zero) := by
  have e1 : l = l.take i ++ l.getD i Rt.zero :: l.drop (i + 1) := by
    rw [getD_lt hi, List.getElem_cons_drop, List.take_append_drop]
  have e2 : f (l.getD i Rt.zero) = (f (l.getD i Rt.zero)).take k ++ (f (l.getD i Rt.zero)).getD k Rp.zero :: (f (l.getD i Rt.zero)).drop (k + 1) := by
    rw [getD_lt hk, List.getElem_cons_drop, List.take_append_drop]
  have n1 : ((l.take i).flatMap f).find? (fun r => decide (r.a = o)) = none := by
    rw [List.find?_eq_none]
    intro r hr
    rw [List.mem_flatMap] at hr
    obtain ⟨g, hg, hr⟩ := hr
    simpa using h g hg r hr
  have n2 : ((f (l.getD i Rt.zero)).take k).find? (fun r => decide (r.a = o)) = none := by
    rw [List.find?_eq_none]
    intro r hr
    simpa using h2 r hr
  generalize hG : l.getD i Rt.zero = G at *
  generalize hR : (f G).getD k Rp.zero = R at *
  rw [e1, List.flatMap_append, List.find?_append, n1, List.flatMap_cons, List.find?_append, e2, List.find?_append, n2]
  simp [h3]
end
theorem read_lo {S : St} {o : Int} (h : o < 0 ∨ S.x ≤ o) : readT S o = (Rp.zero, 6) := by unfold readT; rw [if_pos h]
theorem read_hit {S : St} {o : Int} (h : ¬ (o < 0 ∨ S.x ≤ o)) {r : Rp.Rec} (hr : (S.g.flatMap fun g => recsG S.d g.b).find? (fun r => decide (r.a = o)) = some r) : readT S o = (r, 0) := by unfold readT; rw [if_neg h, hr]
theorem read_no {S : St} {o : Int} (h : ¬ (o < 0 ∨ S.x ≤ o)) (hr : (S.g.flatMap fun g => recsG S.d g.b).find? (fun r => decide (r.a = o)) = none) : readT S o = (Rp.zero, 11) := by unfold readT; rw [if_neg h, hr]
theorem keepG {w W W' : World} {b t n : Nat} {v0 v1 v2 v3 v4 v5 v6 v7 v8 v9 v10 u0 u1 u2 : Value}
    (h : W.cell? ⟨b, 0, none⟩ = some v0 ∧ W.cell? ⟨b, 1, none⟩ = some v1 ∧ W.cell? ⟨b, 2, none⟩ = some v2 ∧ W.cell? ⟨b, 3, none⟩ = some v3 ∧ W.cell? ⟨b, 4, none⟩ = some v4 ∧ W.cell? ⟨b, 5, none⟩ = some v5 ∧ W.cell? ⟨b, 6, none⟩ = some v6 ∧ W.cell? ⟨b, 7, none⟩ = some v7 ∧ W.cell? ⟨b, 8, none⟩ = some v8 ∧ W.cell? ⟨b, 9, none⟩ = some v9 ∧ W.cell? ⟨b, 10, none⟩ = some v10 ∧ W.cell? ⟨t, n, none⟩ = some u0 ∧ W.cell? ⟨t, n + 1, none⟩ = some u1 ∧ W.cell? ⟨t, n + 2, none⟩ = some u2 ∧ Below w.heap.size w W) (k : Below W.heap.size W W') : W'.cell? ⟨b, 0, none⟩ = some v0 ∧ W'.cell? ⟨b, 1, none⟩ = some v1 ∧ W'.cell? ⟨b, 2, none⟩ = some v2 ∧ W'.cell? ⟨b, 3, none⟩ = some v3 ∧ W'.cell? ⟨b, 4, none⟩ = some v4 ∧ W'.cell? ⟨b, 5, none⟩ = some v5 ∧ W'.cell? ⟨b, 6, none⟩ = some v6 ∧ W'.cell? ⟨b, 7, none⟩ = some v7 ∧ W'.cell? ⟨b, 8, none⟩ = some v8 ∧ W'.cell? ⟨b, 9, none⟩ = some v9 ∧ W'.cell? ⟨b, 10, none⟩ = some v10 ∧ W'.cell? ⟨t, n, none⟩ = some u0 ∧ W'.cell? ⟨t, n + 1, none⟩ = some u1 ∧ W'.cell? ⟨t, n + 2, none⟩ = some u2 ∧ Below w.heap.size w W' := by
  obtain ⟨h0, h1, h2, h3, h4, h5, h6, h7, h8, h9, h10, g0, g1, g2, hb⟩ := h
  have q : ∀ {b o : Nat} {x : Value}, W.cell? ⟨b, o, none⟩ = some x → W'.cell? ⟨b, o, none⟩ = some x := fun {b o x} e => (World.cell?_of_block (k.block b (block_lt_of_cell e))).trans e
  exact ⟨q h0, q h1, q h2, q h3, q h4, q h5, q h6, q h7, q h8, q h9, q h10, q g0, q g1, q g2, hb.trans (k.mono hb.size)⟩

/-- What Read answers. -/
def RdVal (R : Rp.Rec × Int) : Value := .tuple #[recVal R.1, .int .i64 R.2]

set_option maxRecDepth 100000 in
set_option maxHeartbeats 1600000 in
/-- The document's Read. -/
theorem rread12_any (fa ga : Option Addr) (fn fc gn gc : Nat) (S : St) (o : Int) (w : World) (hf : IsL FL w (.slice fa fn fc) S.d.f) (hg : IsL SL w (.slice ga gn gc) S.g) (hB : Stb S) :
    Calls Tryz.prog 26 #[stVal (.slice fa fn fc) (.slice ga gn gc) S, .int .i64 o] w fun e w' => e = .returned (RdVal (readT S o)) ∧ Below w.heap.size w w' := by
  obtain ⟨g0, g1, gb, gs⟩ := boxes2 w #[.slice fa fn fc, .int .i64 S.d.c, .bool S.d.a, .int .i64 S.d.l, .bool S.d.x, .int .i64 S.v, .slice ga gn gc, .int .i64 S.x, .int .i64 S.s, .int .i64 S.z, .int .u32 S.c] #[.int .i64 0, .int .i64 0, .string ⟨#[]⟩] 31 57
  have hgl := hg.len.1
  have hgn : gn ≤ 1000 := by rw [hgl]; exact hB.n
  have HGL := Lib.hid hgl
  have HB := Lib.hid hB
  have F0 := Lib.hid hf
  have G0 := Lib.hid hg
  have HAL := Lib.hid fun (W : World) (g : Rt.Sg) (hW : IsL FL W (.slice fa fn fc) S.d.f) (hg : 0 ≤ g.b ∧ g.b ≤ 1152921504606846976) => rall12_any (.slice fa fn fc) (.slice ga gn gc) S g W hW hB.d hg
  unfold stVal sgVal at HAL
  clear hf hg hgl hB
  unfold stVal
  by_cases hlo : o < 0 ∨ S.x ≤ o
  · have HR := Lib.hid (read_lo hlo)
    have LOB : (decide (o < 0) = true) ∨ (decide (o < 0) = false ∧ S.x ≤ o) := by
      by_cases h : o < 0
      · exact .inl (by simpa using h)
      · exact .inr ⟨by simpa using h, hlo.resolve_left h⟩
    clear hlo
    go_enter Tryz.func26, Tryz.ntmps26
    go_upto_region 1 with (fail)
    generalize (w.alloc _).alloc _ = w0 at g0 g1 gb gs ⊢
    obtain ⟨⟨k0, k1, k2, k3, k4⟩, k5, k6, k7, k8, k9, k10⟩ := cellsS g0
    obtain ⟨y0, y1, y2⟩ := cells3 g1
    obtain ⟨yf0, yf1, yf2⟩ := frozen3 g1
    have LY := Lib.hid (show ∃ Z, ((w0.setCell ⟨w.heap.size + 1, 0, none⟩ (.int .i64 0)).setCell ⟨w.heap.size + 1, 1, none⟩ (.int .i64 0)).setCell ⟨w.heap.size + 1, 2, none⟩ (.string ⟨#[]⟩) = Z ∧ Z.heap[w.heap.size + 1]? = some (.cells #[.int .i64 0, .int .i64 0, .string ⟨#[]⟩] 57 (0, 0)) ∧ Below w.heap.size w Z from ⟨_, rfl, heap_set3 g1 _ _ _, bel_st3 gb (Nat.le_succ _) _ _ _⟩)
    clear g0 g1 gb gs
    rcases LOB with h | ⟨h, h'⟩
    all_goals
      go_wp2_with fail
      obtain ⟨Z, hZ, Z1, Z2⟩ := LY.out
      rw [hZ]
      obtain ⟨z0, z1, z2⟩ := cells3 Z1
      refine bodyPost_ret (v := .tuple #[.agg #[.int .i64 0, .int .i64 0, .string ⟨#[]⟩], .int .i64 6]) (by simp [results, Tryz.results26, go_sem, z0, z1, z2]) rfl ?_
      exact ⟨by rw [HR.out]; rfl, Z2⟩
  have h0 : ¬ o < 0 := fun h => hlo (.inl h)
  have h1 : ¬ S.x ≤ o := fun h => hlo (.inr h)
  have HL := Lib.hid hlo
  clear hlo
  go_enter Tryz.func26, Tryz.ntmps26
  have hd1 : decide (o < 0) = false := by simpa using h0
  go_upto_region 1 with (fail)
  generalize (w.alloc _).alloc _ = w0 at g0 g1 gb gs ⊢
  obtain ⟨⟨k0, k1, k2, k3, k4⟩, k5, k6, k7, k8, k9, k10⟩ := cellsS g0
  obtain ⟨s0, s1, s2⟩ := cells3 g1
  have Q0 := Lib.hid g0
  have Q1 := Lib.hid g1
  have QB := Lib.hid gb
  clear g0 g1 gb gs
  go_wp2_with fail
  clear k0 k1 k2 k3 k4 k5 k6 k7 k8 k9 k10 s0 s1 s2
  go_loopw [6] (fun i wr => ∃ m : Nat, m ≤ gn ∧ i = .int .i64 m ∧ NoneTo (fun g => recsG S.d g.b) S.g o m ∧ wr.heap[w.heap.size]? = some (.cells #[.slice fa fn fc, .int .i64 S.d.c, .bool S.d.a, .int .i64 S.d.l, .bool S.d.x, .int .i64 S.v, .slice ga gn gc, .int .i64 S.x, .int .i64 S.s, .int .i64 S.z, .int .u32 S.c] 31 (0, 0)) ∧ wr.heap[w.heap.size + 1]? = some (.cells #[.int .i64 0, .int .i64 0, .string ⟨#[]⟩] 57 (0, 0)) ∧ Below w.heap.size w wr) (fun i _ => gn - (intOf i).toNat)
  case atStart => exact ⟨0, Nat.zero_le _, rfl, fun g hg => by simp at hg, Q0.out, Q1.out, QB.out⟩
  case round =>
    obtain ⟨m, hm, rfl, hno, q0, q1, hb⟩ := hrel
    have NO := Lib.hid hno
    have P0 := Lib.hid q0
    have P1 := Lib.hid q1
    have PB := Lib.hid hb
    obtain ⟨⟨k0, k1, k2, k3, k4⟩, k5, k6, k7, k8, k9, k10⟩ := cellsS q0
    by_cases hlt : m < gn
    · obtain ⟨gb, off, rfl, c0, c1, c2⟩ := sg_at (G0.out.keep hb) hlt
      have hg0 := (HB.out.g _ (by rw [getD_lt (show m < S.g.length by rw [← HGL.out]; exact hlt)]; exact List.getElem_mem _) : ((0 ≤ (S.g.getD m Rt.zero).b ∧ (S.g.getD m Rt.zero).b ≤ 1152921504606846976) ∧ _)).1
      obtain ⟨gg, hgg⟩ : ∃ g, S.g.getD m Rt.zero = g := ⟨_, rfl⟩
      have HGG := Lib.hid hgg
      have HG0 := Lib.hid hg0
      rw [hgg] at c0 c1 c2 HG0
      clear hg0 hno q0 q1 hgg
      go_wp2_with fail
      have ST : wr.cell? ⟨w.heap.size, 0, none⟩ = some (.slice fa fn fc) ∧ wr.cell? ⟨w.heap.size, 1, none⟩ = some (.int .i64 S.d.c) ∧ wr.cell? ⟨w.heap.size, 2, none⟩ = some (.bool S.d.a) ∧ wr.cell? ⟨w.heap.size, 3, none⟩ = some (.int .i64 S.d.l) ∧ wr.cell? ⟨w.heap.size, 4, none⟩ = some (.bool S.d.x) ∧ wr.cell? ⟨w.heap.size, 5, none⟩ = some (.int .i64 S.v) ∧ wr.cell? ⟨w.heap.size, 6, none⟩ = some (.slice (some ⟨gb, off, none⟩) gn gc) ∧ wr.cell? ⟨w.heap.size, 7, none⟩ = some (.int .i64 S.x) ∧ wr.cell? ⟨w.heap.size, 8, none⟩ = some (.int .i64 S.s) ∧ wr.cell? ⟨w.heap.size, 9, none⟩ = some (.int .i64 S.z) ∧ wr.cell? ⟨w.heap.size, 10, none⟩ = some (.int .u32 S.c) ∧ wr.cell? ⟨gb, off + m * 3, none⟩ = some (.int .i64 gg.b) ∧ wr.cell? ⟨gb, off + m * 3 + 1, none⟩ = some (.int .i64 gg.n) ∧ wr.cell? ⟨gb, off + m * 3 + 2, none⟩ = some (.int .i64 gg.z) ∧ Below w.heap.size w wr := ⟨k0, k1, k2, k3, k4, k5, k6, k7, k8, k9, k10, c0, c1, c2, PB.out⟩
      clear k0 k1 k2 k3 k4 k5 k6 k7 k8 k9 k10 c0 c1 c2
      go_region_held3 (fun W => W.cell? ⟨w.heap.size, 0, none⟩ = some (.slice fa fn fc) ∧ W.cell? ⟨w.heap.size, 1, none⟩ = some (.int .i64 S.d.c) ∧ W.cell? ⟨w.heap.size, 2, none⟩ = some (.bool S.d.a) ∧ W.cell? ⟨w.heap.size, 3, none⟩ = some (.int .i64 S.d.l) ∧ W.cell? ⟨w.heap.size, 4, none⟩ = some (.bool S.d.x) ∧ W.cell? ⟨w.heap.size, 5, none⟩ = some (.int .i64 S.v) ∧ W.cell? ⟨w.heap.size, 6, none⟩ = some (.slice (some ⟨gb, off, none⟩) gn gc) ∧ W.cell? ⟨w.heap.size, 7, none⟩ = some (.int .i64 S.x) ∧ W.cell? ⟨w.heap.size, 8, none⟩ = some (.int .i64 S.s) ∧ W.cell? ⟨w.heap.size, 9, none⟩ = some (.int .i64 S.z) ∧ W.cell? ⟨w.heap.size, 10, none⟩ = some (.int .u32 S.c) ∧ W.cell? ⟨gb, off + m * 3, none⟩ = some (.int .i64 gg.b) ∧ W.cell? ⟨gb, off + m * 3 + 1, none⟩ = some (.int .i64 gg.n) ∧ W.cell? ⟨gb, off + m * 3 + 2, none⟩ = some (.int .i64 gg.z) ∧ Below w.heap.size w W) (first | with_reducible assumption | with_reducible exact keepG (by assumption) (Below.refl _ _).drew | with_reducible exact keepG (by assumption) (by assumption)) (first | (go_at_call 61; refine (HAL.out _ gg (F0.out.keep PB.out.drew) HG0.out).mono ?_; rintro e w4 ⟨v, rfl, hr, b4⟩))
      rename_i qq
      have QB4 := Lib.hid qq.2.2.2.2.2.2.2.2.2.2.2.2.2.2
      have B4 := Lib.hid (show Below wr.heap.size wr w4 from (Below.refl _ wr).drew.trans b4)
      clear b4 qq ST
      obtain ⟨rs, hrs⟩ : ∃ rs, recsG S.d gg.b = rs := ⟨_, rfl⟩
      have HRS := Lib.hid hrs
      rw [hrs] at hr
      clear hrs
      obtain ⟨ra, rc, rfl⟩ : ∃ a c, v = .slice a rs.length c := by obtain ⟨a, c, h, _⟩ := hr; exact ⟨a, c, h⟩
      have hrl : rs.length ≤ 9223372036854775807 := by obtain ⟨_, _, _, h, _⟩ := hr; exact h
      have HRR := Lib.hid hr
      obtain ⟨rn, hrn⟩ : ∃ n, rs.length = n := ⟨_, rfl⟩
      have HRN := Lib.hid hrn
      rw [hrn] at HRR hrl ⊢
      clear hr hrn
      have R0 := Lib.hid (hkeep P0.out B4.out)
      have R1 := Lib.hid (hkeep P1.out B4.out)
      go_wp2_with fail
      go_loop [8] (fun k => ∃ q : Nat, q ≤ rn ∧ k = .int .i64 q ∧ Hid (NoneIn rs o q)) (fun k => rn - (intOf k).toNat)
      case atStart => exact ⟨0, Nat.zero_le _, rfl, Lib.hid fun r hr => by simp at hr⟩
      case round =>
        obtain ⟨q, hq, rfl, hni⟩ := hrel
        by_cases hql : q < rn
        · obtain ⟨rb, roff, rfl, e0, e1, e2⟩ := rec_at HRR.out hql
          obtain ⟨⟨xa, xt, xd⟩, hx⟩ : ∃ r, rs.getD q Rp.zero = r := ⟨_, rfl⟩
          rw [hx] at e0 e1 e2
          have HX := Lib.hid hx
          dsimp only at e0 e1 e2
          clear hx
          by_cases heq : xa = o
          · subst heq
            have HR := Lib.hid (show readT S xa = (⟨xa, xt, xd⟩, 0) from by
              have h5 : m < S.g.length := by rw [← HGL.out]; exact hlt
              have h6 : recsG S.d (S.g.getD m Rt.zero).b = rs := by rw [HGG.out]; exact HRS.out
              have := NoneTo.hit (f := fun g => recsG S.d g.b) (k := q) NO.out h5 (by rw [h6]; exact hni.out) (by rw [h6, HRN.out]; exact hql) (by rw [h6, HX.out])
              rw [h6, HX.out] at this
              exact read_hit HL.out this)
            obtain ⟨y0, y1, y2⟩ := cells3 R1.out
            obtain ⟨yf0, yf1, yf2⟩ := frozen3 R1.out
            have LY := Lib.hid (show ∃ Z, ((w4.setCell ⟨w.heap.size + 1, 0, none⟩ (.int .i64 xa)).setCell ⟨w.heap.size + 1, 1, none⟩ (.int .i64 xt)).setCell ⟨w.heap.size + 1, 2, none⟩ (.string xd) = Z ∧ Z.heap[w.heap.size + 1]? = some (.cells #[.int .i64 xa, .int .i64 xt, .string xd] 57 (0, 0)) ∧ Below w.heap.size w Z from ⟨_, rfl, heap_set3 R1.out _ _ _, bel_st3 QB4.out (Nat.le_succ _) _ _ _⟩)
            go_wp2_with fail
            obtain ⟨Z, hZ, Z1, Z2⟩ := LY.out
            rw [hZ]
            obtain ⟨z0, z1, z2⟩ := cells3 Z1
            refine bodyPost_ret (v := .tuple #[.agg #[.int .i64 xa, .int .i64 xt, .string xd], .int .i64 0]) (by simp [results, Tryz.results26, go_sem, z0, z1, z2]) rfl ?_
            exact ⟨by rw [HR.out]; rfl, Z2⟩
          · have heq' := ne_b heq
            have NN := Lib.hid (hni.out.next (by rw [HRN.out]; exact hql) (by rw [HX.out]; exact heq))
            clear heq
            go_wp2_with fail
            go_round
            case rel => exact ⟨q + 1, by omega, by go_num, NN⟩
            case measure => simp [intOf]; omega
        · obtain rfl : q = rn := by omega
          have NN := Lib.hid (show NoneTo (fun g => recsG S.d g.b) S.g o (m + 1) from NO.out.next (by rw [← HGL.out]; exact hlt) (by
            rw [HGG.out, HRS.out, HRN.out]
            exact hni.out))
          go_wp2_with fail
          go_roundw
          case rel => exact ⟨m + 1, by omega, by go_num, NN.out, R0.out, R1.out, QB4.out⟩
          case measure => simp [intOf]; omega
    · obtain rfl : m = gn := by omega
      have HR := Lib.hid (show readT S o = (Rp.zero, 11) from read_no HL.out (NO.out.all (by rw [← HGL.out]; exact Nat.le_refl _)))
      obtain ⟨y0, y1, y2⟩ := cells3 P1.out
      obtain ⟨yf0, yf1, yf2⟩ := frozen3 P1.out
      have LY := Lib.hid (show ∃ Z, ((wr.setCell ⟨w.heap.size + 1, 0, none⟩ (.int .i64 0)).setCell ⟨w.heap.size + 1, 1, none⟩ (.int .i64 0)).setCell ⟨w.heap.size + 1, 2, none⟩ (.string ⟨#[]⟩) = Z ∧ Z.heap[w.heap.size + 1]? = some (.cells #[.int .i64 0, .int .i64 0, .string ⟨#[]⟩] 57 (0, 0)) ∧ Below w.heap.size w Z from ⟨_, rfl, heap_set3 P1.out _ _ _, bel_st3 PB.out (Nat.le_succ _) _ _ _⟩)
      clear q0 q1 hb
      go_wp2_with fail
      obtain ⟨Z, hZ, Z1, Z2⟩ := LY.out
      rw [hZ]
      obtain ⟨z0, z1, z2⟩ := cells3 Z1
      refine bodyPost_ret (v := .tuple #[.agg #[.int .i64 0, .int .i64 0, .string ⟨#[]⟩], .int .i64 11]) (by simp [results, Tryz.results26, go_sem, z0, z1, z2]) rfl ?_
      exact ⟨by rw [HR.out]; rfl, Z2⟩

end Go.Proofs.YthhhocgpoenigaaGreat.Sto

namespace Go.Proofs.YthhhocgpoenigaaGreat.Sto
open Go.RowKit Go.Proofs.YthhhocgpoenigaaGreat.So Go.Proofs.YthhhocgpoenigaaGreat.Dsk Go.Proofs.YthhhocgpoenigaaGreat.Rts

/-- The records from k on, of so many bytes in all, so many in all. -/
def fromF (S : St) (bytes most : Int) : Nat → Int → Int → Nat → List Rp.Rec
  | 0, _, _, _ => []
  | j + 1, k, n, len => if (len : Int) < most then (if bytes < n + ((Rp.putB (readT S k).1).length : Int) then [] else (readT S k).1 :: fromF S bytes most j (k + 1) (n + ((Rp.putB (readT S k).1).length : Int)) (len + 1)) else []
theorem fromF_succ (S : St) (bytes most : Int) (j : Nat) (k n : Int) (len : Nat) : fromF S bytes most (j + 1) k n len = if (len : Int) < most then (if bytes < n + ((Rp.putB (readT S k).1).length : Int) then [] else (readT S k).1 :: fromF S bytes most j (k + 1) (n + ((Rp.putB (readT S k).1).length : Int)) (len + 1)) else [] := rfl
def fromT (S : St) (o bytes most : Int) : List Rp.Rec := if o < floor S then [] else fromF S bytes most (S.s - o).toNat o 0 0
theorem readT_ok (S : St) (o : Int) : RecOk (readT S o).1 ∧ (readT S o).1.d.size ≤ 64 := by
  have hz : RecOk Rp.zero ∧ Rp.zero.d.size ≤ 64 := ⟨⟨by decide, by decide, by decide, by decide, by decide⟩, by decide⟩
  unfold readT
  split
  · exact hz
  · split
    · rename_i r hr
      have hm := List.mem_of_find?_eq_some hr
      rw [List.mem_flatMap] at hm
      obtain ⟨g, _, hm⟩ := hm
      unfold recsG at hm
      obtain ⟨ps, k, e, h1, h2, _⟩ := Gp.full_good ((dat S.d (segN g.b)).getD []) g.b
      rw [h1, List.mem_map] at hm
      obtain ⟨p, hp, rfl⟩ := hm
      have := h2.ok p hp
      exact ⟨RecOk.of this, this.2.2.2.2⟩
    · exact hz
/-- What From answers. -/
def FrOut (w : World) (l : List Rp.Rec) (e : Ending) (w' : World) : Prop := ∃ v, e = .returned v ∧ IsRecs w' v l ∧ Below w.heap.size w w'
theorem FrOut.mk {w w' : World} {l rs : List Rp.Rec} {v : Value} (h : l = rs) (hr : IsRecs w' v rs) (b : Below w.heap.size w w') : FrOut w l (.returned v) w' := ⟨v, rfl, by rw [h]; exact hr, b⟩
theorem okAll2 {rs : List Rp.Rec} {r : Rp.Rec} (h : ∀ x ∈ rs, RecOk x) (hr : RecOk r) : ∀ x ∈ rs ++ [r], RecOk x := by
  intro x hx
  rcases List.mem_append.1 hx with h1 | h1
  · exact h x h1
  · rw [List.mem_singleton] at h1; rw [h1]; exact hr

theorem info_rec12 : (Tryz.prog.info? 57).map (fun i => (i.zero, i.size, i.bytes)) = some (some (.agg #[.int .i64 0, .int .i64 0, .string ByteArray.empty]), 3, 32) := by kernel_rfl
set_option maxRecDepth 100000 in
set_option maxHeartbeats 1600000 in
/-- The document's From. -/
theorem rfrom12_any (fa ga : Option Addr) (fn fc gn gc : Nat) (S : St) (o by_ most : Int) (w : World) (hf : IsL FL w (.slice fa fn fc) S.d.f) (hg : IsL SL w (.slice ga gn gc) S.g) (hn : S.g ≠ []) (hB : Stb S) (hb : 0 ≤ by_ ∧ by_ ≤ 1000000) (hm : most ≤ 1000000) :
    Calls Tryz.prog 28 #[stVal (.slice fa fn fc) (.slice ga gn gc) S, .int .i64 o, .int .i64 by_, .int .i64 most] w (FrOut w (fromT S o by_ most)) := by
  have hfl0 : 0 ≤ floor S := by
    obtain ⟨g, t, e⟩ := List.exists_cons_of_ne_nil hn
    have := (hB.g g (by rw [e]; exact List.mem_cons_self)).1.1
    unfold floor
    rw [e]
    exact this
  have hss := hB.s.2
  have q0 := heap_alloc_new w (.cells #[.slice fa fn fc, .int .i64 S.d.c, .bool S.d.a, .int .i64 S.d.l, .bool S.d.x, .int .i64 S.v, .slice ga gn gc, .int .i64 S.x, .int .i64 S.s, .int .i64 S.z, .int .u32 S.c] 31)
  have qb := (Below.refl w.heap.size w).alloc (Nat.le_refl _) (.cells #[.slice fa fn fc, .int .i64 S.d.c, .bool S.d.a, .int .i64 S.d.l, .bool S.d.x, .int .i64 S.v, .slice ga gn gc, .int .i64 S.x, .int .i64 S.s, .int .i64 S.z, .int .u32 S.c] 31)
  have FLO := Lib.hid fun (W : World) (h : IsL SL W (.slice ga gn gc) S.g) => rfloor_any (.slice fa fn fc) (.slice ga gn gc) S W h hn
  have RDC := Lib.hid fun (W : World) (k : Int) (h1 : IsL FL W (.slice fa fn fc) S.d.f) (h2 : IsL SL W (.slice ga gn gc) S.g) => rread12_any fa ga fn fc gn gc S k W h1 h2 hB
  have F0 := Lib.hid hf
  have G0 := Lib.hid hg
  have Q0 := Lib.hid q0
  have QB := Lib.hid qb
  obtain ⟨i0, hi, hz0, hz1, hz2⟩ := info_parts info_rec12
  clear hf hg hn hB
  unfold stVal at FLO RDC ⊢
  obtain ⟨⟨k0, k1, k2, k3, k4⟩, k5, k6, k7, k8, k9, k10⟩ := cellsS q0
  clear q0 qb
  go_enter Tryz.func28, Tryz.ntmps28
  go_wp2_with fail
  generalize World.alloc w _ = w0 at k0 k1 k2 k3 k4 k5 k6 k7 k8 k9 k10 Q0 QB ⊢
  refine (FLO.out _ (G0.out.keep QB.out)).mono ?_
  rintro e w1 ⟨rfl, b1⟩
  have P0 := Lib.hid (hkeep Q0.out b1)
  have PB := Lib.hid (QB.out.trans (b1.mono QB.out.size))
  clear b1 k0 k1 k2 k3 k4 k5 k6 k7 k8 k9 k10
  by_cases hlo : o < floor S
  · have HF := Lib.hid (FrOut.mk (show fromT S o by_ most = [] from if_pos hlo) (IsRecs.nil w1 none 0) PB.out)
    go_wp2_with fail
    go_ret
    exact HF.out
  have HT0 := Lib.hid (show fromT S o by_ most = fromF S by_ most (S.s - o).toNat o 0 0 from if_neg hlo)
  have ho : 0 ≤ o := by omega
  generalize fromT S o by_ most = T at *
  generalize floor S = fl at *
  go_wp2_with fail
  go_loopw [9, 10, 11] (fun v n k wr => ∃ (rs : List Rp.Rec) (nn kk : Int), n = .int .i64 nn ∧ k = .int .i64 kk ∧ wr.ownsRow w.heap.size 57 3 v rs.length (recVals rs) ∧ Hid (T = rs ++ fromF S by_ most (S.s - kk).toNat kk nn rs.length) ∧ 0 ≤ nn ∧ nn ≤ by_ ∧ o ≤ kk ∧ (kk ≤ S.s ∨ kk = o) ∧ (rs.length : Int) ≤ kk - o ∧ Hid (∀ x ∈ rs, RecOk x) ∧ wr.heap[w.heap.size]? = some (.cells #[.slice fa fn fc, .int .i64 S.d.c, .bool S.d.a, .int .i64 S.d.l, .bool S.d.x, .int .i64 S.v, .slice ga gn gc, .int .i64 S.x, .int .i64 S.s, .int .i64 S.z, .int .u32 S.c] 31 (0, 0)) ∧ Below w.heap.size w wr) (fun _ _ k _ => (S.s - intOf k).toNat)
  case atStart => exact ⟨[], 0, o, rfl, rfl, World.ownsRow_nil _ _ _ _, Lib.hid (by rw [HT0.out]; rfl), Int.le_refl _, hb.1, Int.le_refl _, .inr rfl, by simp, Lib.hid fun x hx => (by cases hx), P0.out, PB.out⟩
  case round =>
    obtain ⟨rs, nn, kk, rfl, rfl, hown, HT, hn0, hn1, hk0, hk1, hlen, HOK, q0, hbw⟩ := hrel
    obtain ⟨⟨k0, k1, k2, k3, k4⟩, k5, k6, k7, k8, k9, k10⟩ := cellsS q0
    have P0 := Lib.hid q0
    obtain ⟨ra, rc, rfl⟩ := own_slice1 hown
    have HOWN := Lib.hid hown
    have hrl : rs.length ≤ 9223372036854775807 := by omega
    by_cases hc1 : kk < S.s
    · obtain ⟨j, hj⟩ : ∃ j, (S.s - kk).toNat = j + 1 := ⟨(S.s - kk).toNat - 1, by omega⟩
      have hj2 : (S.s - (kk + 1)).toNat = j := by omega
      by_cases hc2 : (rs.length : Int) < most
      · obtain ⟨⟨⟨xa, xt, xd⟩, er⟩, hR⟩ : ∃ R, readT S kk = R := ⟨_, rfl⟩
        have hok := readT_ok S kk
        rw [hR] at hok
        have hz := Rp.putB_le ⟨xa, xt, xd⟩
        have HT2 : T = rs ++ (if by_ < nn + ((Rp.putB ⟨xa, xt, xd⟩).length : Int) then [] else ⟨xa, xt, xd⟩ :: fromF S by_ most j (kk + 1) (nn + ((Rp.putB ⟨xa, xt, xd⟩).length : Int)) (rs.length + 1)) := by
          rw [HT.out, hj, fromF_succ, if_pos hc2, hR]
        have RD := RDC.out wr kk (F0.out.keep hbw) (G0.out.keep hbw)
        rw [hR] at RD
        unfold RdVal recVal at RD
        dsimp only at RD
        replace RD := Lib.hid RD
        have SZ := fun W : World => rrecsize_any ⟨xa, xt, xd⟩ W (by have := hok.2; dsimp only at this ⊢; omega)
        unfold recVal at SZ
        dsimp only at SZ
        obtain ⟨z, hzz⟩ : ∃ z, (Rp.putB ⟨xa, xt, xd⟩).length = z := ⟨_, rfl⟩
        rw [hzz] at SZ HT2 hz
        have HT3 := Lib.hid HT2
        have HOK2 := Lib.hid (okAll2 HOK.out hok.1)
        replace SZ := Lib.hid SZ
        have HJ2 := Lib.hid hj2
        clear HT2 hzz hR hok HT hj hj2
        have n1 : nn + (z : Int) ≤ 2000000 := by omega
        have n2 : 0 ≤ nn + (z : Int) := by omega
        go_wp2_with fail
        refine RD.out.mono ?_
        rintro e w2 ⟨rfl, b2⟩
        clear k0 k1 k2 k3 k4 k5 k6 k7 k8 k9 k10 q0
        go_wp2_with fail
        refine (SZ.out _).mono ?_
        rintro e w3 ⟨rfl, b3⟩
        obtain ⟨y0, y1, y2⟩ := cells3 (hkeep (heap_alloc_new w2 _) b3)
        have A2 := (Below.refl w2.heap.size w2).alloc (Nat.le_refl _) (.cells #[.int .i64 xa, .int .i64 xt, .string xd] 57)
        have b23 := A2.trans (b3.mono A2.size)
        have b03 := hbw.trans ((b2.trans (b23.mono b2.size)).mono hbw.size)
        have hown3 := own_below hown (b2.trans (b23.mono b2.size))
        have P3 := Lib.hid (hkeep P0.out (b2.trans (b23.mono b2.size)))
        have B03 := Lib.hid b03
        clear A2 b23 b2 b3 hbw hown
        by_cases hgt : by_ < nn + (z : Int)
        · have HF := Lib.hid (FrOut.mk (show T = rs from by rw [HT3.out, if_pos hgt, List.append_nil]) (IsRecs.own_ok hown3 (by unfold maxLen; omega) HOK.out) b03)
          clear hown3 b03 y0 y1 y2
          go_wp2_with fail
          go_ret
          exact HF.out
        · have HT4 := Lib.hid (show T = (rs ++ [⟨xa, xt, xd⟩]) ++ fromF S by_ most (S.s - (kk + 1)).toNat (kk + 1) (nn + (z : Int)) (rs ++ [(⟨xa, xt, xd⟩ : Rp.Rec)]).length from by
            rw [HT3.out, if_neg hgt, HJ2.out, List.append_assoc, List.length_append]
            rfl)
          go_wp2_with (at_builtin; refine wpList_append_own _ rfl _ _ 60 rfl w.heap.size 57 i0 (.agg #[.int .i64 0, .int .i64 0, .string ByteArray.empty]) 3 32 Tryz.underlying60 hi hz0 hz1 hz2 rfl (by decide) _ _ _ rfl (hown3.alloc _) ⟨w3.heap.size, 0, none⟩ 1 1 [.int .i64 xa, .int .i64 xt, .string xd] (by simp [go_sem]) rfl (news_new _ _ _ _ rfl) (by simp [Value.oneCell']) (by unfold maxLen; omega) (by omega) (by simp; have := b03.size; omega) ?_; intro v' w4 hown' hgrow hnil)
          go_roundw
          case rel =>
            have hP := row_grown (halloc P3.out) (by decide) (hown3.alloc (.cells #[.int .i64 xa, .int .i64 xt, .string xd] 57)) hgrow
            exact ⟨rs ++ [⟨xa, xt, xd⟩], nn + (z : Int), kk + 1, by go_num, by go_num, own_rec_snoc hown', HT4, n2, by omega, by omega, .inl (by omega), by rw [List.length_append]; simp; omega, HOK2, hP, (b03.alloc b03.size _).grown hgrow (by simp; have := b03.size; omega) (fun p hp => (hown3.lt p hp).1)⟩
          case measure => simp [intOf]; omega
      · have HF := Lib.hid (FrOut.mk (show T = rs from by
          rw [HT.out, hj, fromF_succ, if_neg hc2, List.append_nil]) (IsRecs.own_ok hown (by unfold maxLen; omega) HOK.out) hbw)
        clear hown hj hj2 HT
        go_wp2_with fail
        go_ret
        exact HF.out
    · have HF := Lib.hid (FrOut.mk (show T = rs from by
        rw [HT.out, show (S.s - kk).toNat = 0 from by omega]
        unfold fromF
        rw [List.append_nil]) (IsRecs.own_ok hown (by unfold maxLen; omega) HOK.out) hbw)
      clear hown HT
      go_wp2_with fail
      go_ret
      exact HF.out

end Go.Proofs.YthhhocgpoenigaaGreat.Sto

namespace Go.Proofs.YthhhocgpoenigaaGreat.So
open Go.RowKit Go.Proofs.YthhhocgpoenigaaGreat.Dp

theorem calm_change {D : Dk} (h : Calm D) (l : List Fl) (o : Int) : Calm (Dp.change D l o).1 := by
  unfold Dp.change
  rw [if_neg (by rw [h.x]; decide)]
  split
  · exact h
  · rw [if_neg (by rw [h.a]; simp), if_neg (by rw [h.a]; decide)]
    exact ⟨h.x, h.a, h.c⟩
theorem calm_create {D : Dk} (h : Calm D) (n : ByteArray) : Calm (Dp.create D n).1 := by
  unfold Dp.create
  split
  · exact calm_change h _ _
  · split <;> exact calm_change h _ _
theorem calm_append {D : Dk} (h : Calm D) (n s : ByteArray) : Calm (Dp.append D n s).1 := by
  unfold Dp.append
  split
  · exact calm_change h _ _
  · split <;> exact calm_change h _ _
theorem calm_sync {D : Dk} (h : Calm D) (n : ByteArray) : Calm (Dp.sync D n).1 := by
  unfold Dp.sync
  split <;> exact calm_change h _ _
theorem calm_rename {D : Dk} (h : Calm D) (n m : ByteArray) : Calm (Dp.rename D n m).1 := by
  unfold Dp.rename
  split
  · exact calm_change h _ _
  · split <;> exact calm_change h _ _
theorem calm_delete {D : Dk} (h : Calm D) (n : ByteArray) : Calm (Dp.delete D n).1 := by
  unfold Dp.delete
  split <;> exact calm_change h _ _
theorem calm_swap {D : Dk} (h : Calm D) (m : Qm.Mn) : Calm (swap D m).1 := by
  have hs : ∀ (E : Dk) (s : ByteArray), Calm E → Calm (swapS E s).1 := fun E s hE => by
    have c1 := calm_create hE nn
    have c2 := calm_append c1 nn s
    have c3 := calm_sync c2 nn
    unfold swapS
    split
    · exact c1
    · split
      · exact calm_delete c2 nn
      · split
        · exact c2
        · split
          · exact c3
          · exact calm_rename c3 nn nm
  unfold swap
  split
  · exact h
  · split
    · split
      · exact calm_delete h nn
      · exact hs _ _ (calm_delete h nn)
    · exact hs _ _ h
theorem calm_create12 {D : Dk} (h : Calm D) : Calm (createT D).1.d := by
  unfold createT
  split
  · exact calm_create h _
  · dsimp only
    split <;> exact calm_swap (calm_create h _) _

/-- The example's records. -/
def rcA (k : Nat) : Rp.Rec := ⟨(k : Int), 0, ⟨#[UInt8.ofNat (97 + k)]⟩⟩
def rcs (k : Nat) : List Rp.Rec := (List.range k).map rcA
theorem rcs_succ (k : Nat) : rcs (k + 1) = rcs k ++ [rcA k] := by unfold rcs; rw [List.range_succ, List.map_append]; rfl
theorem rcs_len (k : Nat) : (rcs k).length = k := by unfold rcs; simp
theorem put8 : ∀ k, k < 3 → (Rp.putB (rcA k)).length = 8
  | 0, _ => by kernel_rfl
  | 1, _ => by kernel_rfl
  | 2, _ => by kernel_rfl
theorem rcA_ok {k : Nat} (h : k < 3) : Rp.Ok (rcA k) := ⟨by show (0 : Int) ≤ (k : Int); omega, by show (k : Int) ≤ _; omega, by show (0 : Int) ≤ 0; omega, by show (0 : Int) ≤ 1099511627776; omega, by show 1 ≤ 64; omega⟩
/-- The store behind k of them. -/
structure Aw (k : Nat) (S : St) : Prop where
  i : Inv 100 S (rcs k)
  c : Calm S.d
  g : S.g = [⟨0, (k : Int), 8 * (k : Int)⟩]
  d : Sto.Gd S (k + 1)
theorem bd_emp : Dsk.Bd empty 0 := ⟨⟨⟨by decide, by decide⟩, ⟨by decide, by decide⟩⟩, Right.empty, by decide, by decide⟩
theorem aw_create : (createT empty).2 = 0 ∧ Aw 0 (createT empty).1 := by
  obtain ⟨h1, h2, h3⟩ := create_new (q := 100) (by decide)
  exact ⟨h1, h2, calm_create12 ⟨rfl, rfl, rfl⟩, h3, Sto.create_gd (k := 0) bd_emp (by decide) h1⟩
theorem aw_step {k : Nat} {S : St} (h : Aw k S) (hk : k < 3) : (append S 100 (rcA k)).2 = 0 ∧ Aw (k + 1) (append S 100 (rcA k)).1 := by
  have hx : S.x = (k : Int) := by rw [h.i.x, rcs_len]
  have hl : lastG S = ⟨0, (k : Int), 8 * (k : Int)⟩ := by unfold lastG; rw [h.g]; rfl
  have ha : append S 100 (rcA k) = put S (rcA k) := by
    unfold append
    rw [if_neg (fun h => h ⟨rcA_ok hk, by rw [hx]; rfl⟩), if_neg (by rw [hx]; omega), if_neg (by rw [hl]; show ¬ (100 : Int) ≤ 8 * (k : Int); omega)]
  obtain ⟨t, l, r, e1, e2, e3, e4, e5, e6, e7, e8⟩ := h.i.last
  obtain ⟨f, hf⟩ : ∃ f, get S.d.f (segN (lastG S).b) = some f := by
    unfold dat at e6
    cases hg : get S.d.f (segN (lastG S).b) with
    | none => rw [hg] at e6; cases e6
    | some f => exact ⟨f, rfl⟩
  have hA := h.c.append (s := ⟨(Rp.putB (rcA k)).toArray⟩) hf
  have h0 : (put S (rcA k)).2 = 0 := by
    unfold put
    dsimp only
    rw [if_neg (by rw [hA.1]; exact fun e => e rfl)]
  have h0' : (append S 100 (rcA k)).2 = 0 := by rw [ha]; exact h0
  refine ⟨h0', ?_⟩
  rcases h.i.append (by decide) (rcA k) with ⟨_, _, _, i4, _⟩ | ⟨i1, _⟩
  · rw [← rcs_succ] at i4
    refine ⟨i4, ?_, ?_, ?_⟩
    · rw [ha]
      unfold put
      dsimp only
      rw [if_neg (by rw [hA.1]; exact fun e => e rfl)]
      exact hA.2
    · rw [ha]
      unfold put
      dsimp only
      rw [if_neg (by rw [hA.1]; exact fun e => e rfl)]
      show grown S.g _ = _
      rw [h.g, put8 k hk]
      show [(⟨0, (k : Int) + 1, 8 * (k : Int) + ((8 : Nat) : Int)⟩ : Rt.Sg)] = _
      rw [show (k : Int) + 1 = ((k + 1 : Nat) : Int) from by omega, show 8 * (k : Int) + ((8 : Nat) : Int) = 8 * ((k + 1 : Nat) : Int) from by omega]
    · exact h.d.app 100 _
  · exact absurd h0' i1

/-- Synced, they are read. -/
theorem aw_end {S : St} (h : Aw 3 S) : (syncT S).2 = 0 ∧ (syncT S).1.s = 3 ∧ readT (syncT S).1 1 = (rcA 1, 0) ∧ (Sto.fromT (syncT S).1 1 1000 9).length = 2 ∧ Sto.Gd (syncT S).1 5 := by
  have hx : S.x = 3 := by rw [h.i.x, rcs_len]; rfl
  obtain ⟨t, l, r, e1, e2, e3, e4, e5, e6, e7, e8⟩ := h.i.last
  obtain ⟨f, hf⟩ : ∃ f, get S.d.f (segN (lastG S).b) = some f := by
    unfold dat at e6
    cases hg : get S.d.f (segN (lastG S).b) with
    | none => rw [hg] at e6; cases e6
    | some f => exact ⟨f, rfl⟩
  have hA := h.c.sync hf
  have h0 : (syncT S).2 = 0 := by unfold syncT; show (Dp.sync _ _).2 = 0; rw [hA.1]
  have hs : (syncT S).1.s = 3 := by
    unfold syncT
    show (if (Dp.sync _ _).2 = 0 then S.x else S.s) = 3
    rw [hA.1, if_pos rfl, hx]
  have hi := h.i.sync (by rw [rcs_len]; decide)
  have hr : ∀ i : Nat, i < 3 → readT (syncT S).1 (i : Int) = (rcA i, 0) := fun i hi3 => by
    have := hi.read (by rw [rcs_len]; decide) (i := i) (by rw [rcs_len]; exact hi3)
    rw [this]
    unfold rcs
    simp
  have r1 : readT (syncT S).1 1 = (rcA 1, 0) := hr 1 (by decide)
  have r2 : readT (syncT S).1 2 = (rcA 2, 0) := hr 2 (by decide)
  refine ⟨h0, hs, r1, ?_, ?_⟩
  · unfold Sto.fromT
    have hfl : floor (syncT S).1 = 0 := by
      unfold floor
      show ((S.g).headD Rt.zero).b = 0
      rw [h.g]; rfl
    rw [if_neg (by rw [hfl]; decide), hs]
    show (Sto.fromF (syncT S).1 1000 9 2 1 0 0).length = 2
    rw [Sto.fromF_succ, if_pos (by decide), r1]
    dsimp only
    rw [put8 1 (by decide), if_neg (by decide), Sto.fromF_succ, if_pos (by decide), show (1 : Int) + 1 = 2 from rfl, r2]
    dsimp only
    rw [put8 2 (by decide), if_neg (by decide)]
    rfl
  · have := h.d.act 100 ⟨1, 0, ⟨#[]⟩⟩ (by decide)
    rwa [Sto.doA_sync rfl] at this

end Go.Proofs.YthhhocgpoenigaaGreat.So
