/-
  Parts of what the laws of this seat stand on: StoRdd, StoFrom, FoldVal, FoldDel.
-/
import Derived.BigQuiet
import Derived.ChangeArms
import Derived.Deep.RegionLaw
import Derived.Deep.Slices
import Derived.Deep.Strs
import Derived.Lib.Builder
import Derived.Lib.SliceRun
import Derived.Lib.SmallJoins
import Derived.Shelf.RegionOpenPlain
import Derived.Test.YtijbpdpkoamhbaaGreatQa1
import Derived.Test.YtijbpdpkoamhbaaGreatQa11
import Derived.Test.YtijbpdpkoamhbaaGreatQa16
import Derived.Test.YtijbpdpkoamhbaaGreatQa24
import Derived.Test.YtijbpdpkoamhbaaGreatQa28
import Derived.Test.YtijbpdpkoamhbaaGreatQa29
set_option maxRecDepth 100000
set_option maxHeartbeats 6400000
namespace Go.Proofs.YtijbpdpkoamhbaaGreat
namespace Sto
open Go.RowKit So Dsk Rts
theorem rec_at {w : World} {a : Option Addr} {n c : Nat} {rs : List Rp.Rec} (h : IsRecs w (.slice a n c) rs) {i : Nat} (hi : i < n) :
 ∃ b off, a = some ⟨b, off, none⟩ ∧ w.cell? ⟨b, off + i * 3, none⟩ = some (.int .i64 (rs.getD i Rp.zero).a) ∧ w.cell? ⟨b, off + i * 3 + 1, none⟩ = some (.int .i64 (rs.getD i Rp.zero).t) ∧ w.cell? ⟨b, off + i * 3 + 2, none⟩ = some (.string (rs.getD i Rp.zero).d) := by
 obtain ⟨a', cap', e, _, _, h3⟩ := h
 injection e with e1 e2 e3
 rcases h3 with h3 | ⟨b, off, h4, h5⟩
 · rw [h3] at e2; simp at e2; omega
 · exact ⟨b, off, by rw [e1, h4], h5 i (by omega)⟩
section
variable {f : Rt.Sg → List Rp.Rec} {l : List Rt.Sg} {o : Int}
def NoneTo (f : Rt.Sg → List Rp.Rec) (l : List Rt.Sg) (o : Int) (i : Nat) : Prop := ∀ g ∈ l.take i, ∀ r ∈ f g, r.a ≠ o
def NoneIn (rs : List Rp.Rec) (o : Int) (k : Nat) : Prop := ∀ r ∈ rs.take k, r.a ≠ o
theorem NoneIn.next {rs : List Rp.Rec} {k : Nat} (h : NoneIn rs o k) (hk : k < rs.length) (hn : (rs.getD k Rp.zero).a ≠ o) : NoneIn rs o (k + 1) := by
 intro r hr
 rw [List.take_succ_eq_append_getElem hk, List.mem_append] at hr
 rcases hr with hr | hr
 · exact h r hr
 · rw [List.mem_singleton] at hr; subst hr
   rwa [getD_lt hk] at hn
theorem NoneTo.next {i : Nat} (h : NoneTo f l o i) (hi : i < l.length) (hn : NoneIn (f (l.getD i Rt.zero)) o (f (l.getD i Rt.zero)).length) : NoneTo f l o (i + 1) := by
 intro g hg
 rw [List.take_succ_eq_append_getElem hi, List.mem_append] at hg
 rcases hg with hg | hg
 · exact h g hg
 · rw [List.mem_singleton] at hg; subst hg
   intro r hr
   rw [getD_lt hi] at hn
   exact hn r (by rw [List.take_length]; exact hr)
theorem NoneTo.all {i : Nat} (h : NoneTo f l o i) (hi : l.length ≤ i) : (l.flatMap f).find? (fun r => decide (r.a = o)) = none := by
 rw [List.find?_eq_none]
 intro r hr
 rw [List.mem_flatMap] at hr
 obtain ⟨g, hg, hr⟩ := hr
 simpa using h g (by rw [List.take_of_length_le hi]; exact hg) r hr
theorem NoneTo.hit {i k : Nat} (h : NoneTo f l o i) (hi : i < l.length) (h2 : NoneIn (f (l.getD i Rt.zero)) o k) (hk : k < (f (l.getD i Rt.zero)).length) (h3 : ((f (l.getD i Rt.zero)).getD k Rp.zero).a = o) :
 (l.flatMap f).find? (fun r => decide (r.a = o)) = some ((f (l.getD i Rt.zero)).getD k Rp.zero) := by
 have e1 : l = l.take i ++ l.getD i Rt.zero :: l.drop (i + 1) := by
  rw [getD_lt hi, List.getElem_cons_drop, List.take_append_drop]
 have e2 : f (l.getD i Rt.zero) = (f (l.getD i Rt.zero)).take k ++ (f (l.getD i Rt.zero)).getD k Rp.zero :: (f (l.getD i Rt.zero)).drop (k + 1) := by
  rw [getD_lt hk, List.getElem_cons_drop, List.take_append_drop]
 have n1 : ((l.take i).flatMap f).find? (fun r => decide (r.a = o)) = none := by
  rw [List.find?_eq_none]
  intro r hr
  rw [List.mem_flatMap] at hr
  obtain ⟨g, hg, hr⟩ := hr
  simpa using h g hg r hr
 have n2 : ((f (l.getD i Rt.zero)).take k).find? (fun r => decide (r.a = o)) = none := by
  rw [List.find?_eq_none]
  intro r hr
  simpa using h2 r hr
 generalize hG : l.getD i Rt.zero = G at *
 generalize hR : (f G).getD k Rp.zero = R at *
 rw [e1, List.flatMap_append, List.find?_append, n1, List.flatMap_cons, List.find?_append, e2, List.find?_append, n2]
 simp [h3]
end
theorem read_lo {S : St} {o : Int} (h : o < 0 ∨ S.x ≤ o) : readT S o = (Rp.zero, 6) := by unfold readT; rw [if_pos h]
theorem read_hit {S : St} {o : Int} (h : ¬ (o < 0 ∨ S.x ≤ o)) {r : Rp.Rec} (hr : (S.g.flatMap fun g => recsG S.d g.b).find? (fun r => decide (r.a = o)) = some r) : readT S o = (r, 0) := by unfold readT; rw [if_neg h, hr]
theorem read_no {S : St} {o : Int} (h : ¬ (o < 0 ∨ S.x ≤ o)) (hr : (S.g.flatMap fun g => recsG S.d g.b).find? (fun r => decide (r.a = o)) = none) : readT S o = (Rp.zero, 11) := by unfold readT; rw [if_neg h, hr]
theorem keepG {w W W' : World} {b t n : Nat} {v0 v1 v2 v3 v4 v5 v6 v7 v8 v9 v10 u0 u1 u2 : Value}
 (h : W.cell? ⟨b, 0, none⟩ = some v0 ∧ W.cell? ⟨b, 1, none⟩ = some v1 ∧ W.cell? ⟨b, 2, none⟩ = some v2 ∧ W.cell? ⟨b, 3, none⟩ = some v3 ∧ W.cell? ⟨b, 4, none⟩ = some v4 ∧ W.cell? ⟨b, 5, none⟩ = some v5 ∧ W.cell? ⟨b, 6, none⟩ = some v6 ∧ W.cell? ⟨b, 7, none⟩ = some v7 ∧ W.cell? ⟨b, 8, none⟩ = some v8 ∧ W.cell? ⟨b, 9, none⟩ = some v9 ∧ W.cell? ⟨b, 10, none⟩ = some v10 ∧ W.cell? ⟨t, n, none⟩ = some u0 ∧ W.cell? ⟨t, n + 1, none⟩ = some u1 ∧ W.cell? ⟨t, n + 2, none⟩ = some u2 ∧ Below w.heap.size w W) (k : Below W.heap.size W W') : W'.cell? ⟨b, 0, none⟩ = some v0 ∧ W'.cell? ⟨b, 1, none⟩ = some v1 ∧ W'.cell? ⟨b, 2, none⟩ = some v2 ∧ W'.cell? ⟨b, 3, none⟩ = some v3 ∧ W'.cell? ⟨b, 4, none⟩ = some v4 ∧ W'.cell? ⟨b, 5, none⟩ = some v5 ∧ W'.cell? ⟨b, 6, none⟩ = some v6 ∧ W'.cell? ⟨b, 7, none⟩ = some v7 ∧ W'.cell? ⟨b, 8, none⟩ = some v8 ∧ W'.cell? ⟨b, 9, none⟩ = some v9 ∧ W'.cell? ⟨b, 10, none⟩ = some v10 ∧ W'.cell? ⟨t, n, none⟩ = some u0 ∧ W'.cell? ⟨t, n + 1, none⟩ = some u1 ∧ W'.cell? ⟨t, n + 2, none⟩ = some u2 ∧ Below w.heap.size w W' := by
 obtain ⟨h0, h1, h2, h3, h4, h5, h6, h7, h8, h9, h10, g0, g1, g2, hb⟩ := h
 have q : ∀ {b o : Nat} {x : Value}, W.cell? ⟨b, o, none⟩ = some x → W'.cell? ⟨b, o, none⟩ = some x := fun {b o x} e => (World.cell?_of_block (k.block b (block_lt_of_cell e))).trans e
 exact ⟨q h0, q h1, q h2, q h3, q h4, q h5, q h6, q h7, q h8, q h9, q h10, q g0, q g1, q g2, hb.trans (k.mono hb.size)⟩
def RdVal (R : Rp.Rec × Int) : Value := .tuple #[recVal R.1, .int .i64 R.2]
theorem rread12_any (fa ga : Option Addr) (fn fc gn gc : Nat) (S : St) (o : Int) (w : World) (hf : IsL FL w (.slice fa fn fc) S.d.f) (hg : IsL SL w (.slice ga gn gc) S.g) (hB : Stb S) :
 Calls Tryz.prog 18 #[stVal (.slice fa fn fc) (.slice ga gn gc) S, .int .i64 o] w fun e w' => e = .returned (RdVal (readT S o)) ∧ Below w.heap.size w w' := by
 obtain ⟨g0, g1, gb, gs⟩ := boxes2 w #[.slice fa fn fc, .int .i64 S.d.c, .bool S.d.a, .int .i64 S.d.l, .bool S.d.x, .int .i64 S.v, .slice ga gn gc, .int .i64 S.x, .int .i64 S.s, .int .i64 S.z, .int .u32 S.c] #[.int .i64 0, .int .i64 0, .string ⟨#[]⟩] 32 47
 have hgl := hg.len.1
 have hgn : gn ≤ 1000 := by rw [hgl]; exact hB.n
 have HGL := zid hgl
 have HB := zid hB
 have F0 := zid hf
 have G0 := zid hg
 have HAL := zid fun (W : World) (g : Rt.Sg) (hW : IsL FL W (.slice fa fn fc) S.d.f) (hg : 0 ≤ g.b ∧ g.b ≤ 1152921504606846976) => rall12_any (.slice fa fn fc) (.slice ga gn gc) S g W hW hB.d hg
 unfold stVal sgVal at HAL
 clear hf hg hgl hB
 unfold stVal
 by_cases hlo : o < 0 ∨ S.x ≤ o
 · have HR := zid (read_lo hlo)
   have LOB : (decide (o < 0) = true) ∨ (decide (o < 0) = false ∧ S.x ≤ o) := by
    by_cases h : o < 0
    · exact .inl (by simpa using h)
    · exact .inr ⟨by simpa using h, hlo.resolve_left h⟩
   clear hlo
   go_enter Tryz.func18, Tryz.ntmps18
   go_upto_region 1 with (fail)
   generalize (w.alloc _).alloc _ = w0 at g0 g1 gb gs ⊢
   obtain ⟨⟨k0, k1, k2, k3, k4⟩, k5, k6, k7, k8, k9, k10⟩ := cellsS g0
   obtain ⟨y0, y1, y2⟩ := cells3 g1
   obtain ⟨yf0, yf1, yf2⟩ := frozen3 g1
   have LY := zid (show ∃ Z, ((w0.setCell ⟨w.heap.size + 1, 0, none⟩ (.int .i64 0)).setCell ⟨w.heap.size + 1, 1, none⟩ (.int .i64 0)).setCell ⟨w.heap.size + 1, 2, none⟩ (.string ⟨#[]⟩) = Z ∧ Z.heap[w.heap.size + 1]? = some (.cells #[.int .i64 0, .int .i64 0, .string ⟨#[]⟩] 47 (0, 0)) ∧ Below w.heap.size w Z from ⟨_, rfl, heap_set3 g1 _ _ _, bel_st3 gb (Nat.le_succ _) _ _ _⟩)
   clear g0 g1 gb gs
   rcases LOB with h | ⟨h, h'⟩
   all_goals
    go_wp2_with fail
    obtain ⟨Z, hZ, Z1, Z2⟩ := LY.out
    rw [hZ]
    obtain ⟨z0, z1, z2⟩ := cells3 Z1
    refine bodyPost_ret (v := .tuple #[.agg #[.int .i64 0, .int .i64 0, .string ⟨#[]⟩], .int .i64 6]) (by simp [results, Tryz.results18, go_sem, z0, z1, z2]) rfl ?_
    exact ⟨by rw [HR.out]; rfl, Z2⟩
 have h0 : ¬ o < 0 := fun h => hlo (.inl h)
 have h1 : ¬ S.x ≤ o := fun h => hlo (.inr h)
 have HL := zid hlo
 clear hlo
 go_enter Tryz.func18, Tryz.ntmps18
 have hd1 : decide (o < 0) = false := by simpa using h0
 go_upto_region 1 with (fail)
 generalize (w.alloc _).alloc _ = w0 at g0 g1 gb gs ⊢
 obtain ⟨⟨k0, k1, k2, k3, k4⟩, k5, k6, k7, k8, k9, k10⟩ := cellsS g0
 obtain ⟨s0, s1, s2⟩ := cells3 g1
 have Q0 := zid g0
 have Q1 := zid g1
 have QB := zid gb
 clear g0 g1 gb gs
 go_wp2_with fail
 clear k0 k1 k2 k3 k4 k5 k6 k7 k8 k9 k10 s0 s1 s2
 go_loopw [6] (fun i wr => ∃ m : Nat, m ≤ gn ∧ i = .int .i64 m ∧ NoneTo (fun g => recsG S.d g.b) S.g o m ∧ wr.heap[w.heap.size]? = some (.cells #[.slice fa fn fc, .int .i64 S.d.c, .bool S.d.a, .int .i64 S.d.l, .bool S.d.x, .int .i64 S.v, .slice ga gn gc, .int .i64 S.x, .int .i64 S.s, .int .i64 S.z, .int .u32 S.c] 32 (0, 0)) ∧ wr.heap[w.heap.size + 1]? = some (.cells #[.int .i64 0, .int .i64 0, .string ⟨#[]⟩] 47 (0, 0)) ∧ Below w.heap.size w wr) (fun i _ => gn - (intOf i).toNat)
 case atStart => exact ⟨0, Nat.zero_le _, rfl, fun g hg => by simp at hg, Q0.out, Q1.out, QB.out⟩
 case round =>
  obtain ⟨m, hm, rfl, hno, q0, q1, hb⟩ := hrel
  have NO := zid hno
  have P0 := zid q0
  have P1 := zid q1
  have PB := zid hb
  obtain ⟨⟨k0, k1, k2, k3, k4⟩, k5, k6, k7, k8, k9, k10⟩ := cellsS q0
  by_cases hlt : m < gn
  · obtain ⟨gb, off, rfl, c0, c1, c2⟩ := sg_at (G0.out.keep hb) hlt
    have hg0 := (HB.out.g _ (by rw [getD_lt (show m < S.g.length by rw [← HGL.out]; exact hlt)]; exact List.getElem_mem _) : ((0 ≤ (S.g.getD m Rt.zero).b ∧ (S.g.getD m Rt.zero).b ≤ 1152921504606846976) ∧ _)).1
    obtain ⟨gg, hgg⟩ : ∃ g, S.g.getD m Rt.zero = g := ⟨_, rfl⟩
    have HGG := zid hgg
    have HG0 := zid hg0
    rw [hgg] at c0 c1 c2 HG0
    clear hg0 hno q0 q1 hgg
    go_wp2_with fail
    have ST : wr.cell? ⟨w.heap.size, 0, none⟩ = some (.slice fa fn fc) ∧ wr.cell? ⟨w.heap.size, 1, none⟩ = some (.int .i64 S.d.c) ∧ wr.cell? ⟨w.heap.size, 2, none⟩ = some (.bool S.d.a) ∧ wr.cell? ⟨w.heap.size, 3, none⟩ = some (.int .i64 S.d.l) ∧ wr.cell? ⟨w.heap.size, 4, none⟩ = some (.bool S.d.x) ∧ wr.cell? ⟨w.heap.size, 5, none⟩ = some (.int .i64 S.v) ∧ wr.cell? ⟨w.heap.size, 6, none⟩ = some (.slice (some ⟨gb, off, none⟩) gn gc) ∧ wr.cell? ⟨w.heap.size, 7, none⟩ = some (.int .i64 S.x) ∧ wr.cell? ⟨w.heap.size, 8, none⟩ = some (.int .i64 S.s) ∧ wr.cell? ⟨w.heap.size, 9, none⟩ = some (.int .i64 S.z) ∧ wr.cell? ⟨w.heap.size, 10, none⟩ = some (.int .u32 S.c) ∧ wr.cell? ⟨gb, off + m * 3, none⟩ = some (.int .i64 gg.b) ∧ wr.cell? ⟨gb, off + m * 3 + 1, none⟩ = some (.int .i64 gg.n) ∧ wr.cell? ⟨gb, off + m * 3 + 2, none⟩ = some (.int .i64 gg.z) ∧ Below w.heap.size w wr := ⟨k0, k1, k2, k3, k4, k5, k6, k7, k8, k9, k10, c0, c1, c2, PB.out⟩
    clear k0 k1 k2 k3 k4 k5 k6 k7 k8 k9 k10 c0 c1 c2
    go_region_held3 (fun W => W.cell? ⟨w.heap.size, 0, none⟩ = some (.slice fa fn fc) ∧ W.cell? ⟨w.heap.size, 1, none⟩ = some (.int .i64 S.d.c) ∧ W.cell? ⟨w.heap.size, 2, none⟩ = some (.bool S.d.a) ∧ W.cell? ⟨w.heap.size, 3, none⟩ = some (.int .i64 S.d.l) ∧ W.cell? ⟨w.heap.size, 4, none⟩ = some (.bool S.d.x) ∧ W.cell? ⟨w.heap.size, 5, none⟩ = some (.int .i64 S.v) ∧ W.cell? ⟨w.heap.size, 6, none⟩ = some (.slice (some ⟨gb, off, none⟩) gn gc) ∧ W.cell? ⟨w.heap.size, 7, none⟩ = some (.int .i64 S.x) ∧ W.cell? ⟨w.heap.size, 8, none⟩ = some (.int .i64 S.s) ∧ W.cell? ⟨w.heap.size, 9, none⟩ = some (.int .i64 S.z) ∧ W.cell? ⟨w.heap.size, 10, none⟩ = some (.int .u32 S.c) ∧ W.cell? ⟨gb, off + m * 3, none⟩ = some (.int .i64 gg.b) ∧ W.cell? ⟨gb, off + m * 3 + 1, none⟩ = some (.int .i64 gg.n) ∧ W.cell? ⟨gb, off + m * 3 + 2, none⟩ = some (.int .i64 gg.z) ∧ Below w.heap.size w W) (first | with_reducible assumption | with_reducible exact keepG (by assumption) (Below.refl _ _).drew | with_reducible exact keepG (by assumption) (by assumption)) (first | (go_at_call 55; refine (HAL.out _ gg (F0.out.keep PB.out.drew) HG0.out).mono ?_; rintro e w4 ⟨v, rfl, hr, b4⟩))
    rename_i qq
    have QB4 := zid qq.2.2.2.2.2.2.2.2.2.2.2.2.2.2
    have B4 := zid (show Below wr.heap.size wr w4 from (Below.refl _ wr).drew.trans b4)
    clear b4 qq ST
    obtain ⟨rs, hrs⟩ : ∃ rs, recsG S.d gg.b = rs := ⟨_, rfl⟩
    have HRS := zid hrs
    rw [hrs] at hr
    clear hrs
    obtain ⟨ra, rc, rfl⟩ : ∃ a c, v = .slice a rs.length c := by obtain ⟨a, c, h, _⟩ := hr; exact ⟨a, c, h⟩
    have hrl : rs.length ≤ 9223372036854775807 := by obtain ⟨_, _, _, h, _⟩ := hr; exact h
    have HRR := zid hr
    obtain ⟨rn, hrn⟩ : ∃ n, rs.length = n := ⟨_, rfl⟩
    have HRN := zid hrn
    rw [hrn] at HRR hrl ⊢
    clear hr hrn
    have R0 := zid (hkeep P0.out B4.out)
    have R1 := zid (hkeep P1.out B4.out)
    go_wp2_with fail
    go_loop [8] (fun k => ∃ q : Nat, q ≤ rn ∧ k = .int .i64 q ∧ Hid (NoneIn rs o q)) (fun k => rn - (intOf k).toNat)
    case atStart => exact ⟨0, Nat.zero_le _, rfl, zid fun r hr => by simp at hr⟩
    case round =>
     obtain ⟨q, hq, rfl, hni⟩ := hrel
     by_cases hql : q < rn
     · obtain ⟨rb, roff, rfl, e0, e1, e2⟩ := rec_at HRR.out hql
       obtain ⟨⟨xa, xt, xd⟩, hx⟩ : ∃ r, rs.getD q Rp.zero = r := ⟨_, rfl⟩
       rw [hx] at e0 e1 e2
       have HX := zid hx
       dsimp only at e0 e1 e2
       clear hx
       by_cases heq : xa = o
       · subst heq
         have HR := zid (show readT S xa = (⟨xa, xt, xd⟩, 0) from by
          have h5 : m < S.g.length := by rw [← HGL.out]; exact hlt
          have h6 : recsG S.d (S.g.getD m Rt.zero).b = rs := by rw [HGG.out]; exact HRS.out
          have := NoneTo.hit (f := fun g => recsG S.d g.b) (k := q) NO.out h5 (by rw [h6]; exact hni.out) (by rw [h6, HRN.out]; exact hql) (by rw [h6, HX.out])
          rw [h6, HX.out] at this
          exact read_hit HL.out this)
         obtain ⟨y0, y1, y2⟩ := cells3 R1.out
         obtain ⟨yf0, yf1, yf2⟩ := frozen3 R1.out
         have LY := zid (show ∃ Z, ((w4.setCell ⟨w.heap.size + 1, 0, none⟩ (.int .i64 xa)).setCell ⟨w.heap.size + 1, 1, none⟩ (.int .i64 xt)).setCell ⟨w.heap.size + 1, 2, none⟩ (.string xd) = Z ∧ Z.heap[w.heap.size + 1]? = some (.cells #[.int .i64 xa, .int .i64 xt, .string xd] 47 (0, 0)) ∧ Below w.heap.size w Z from ⟨_, rfl, heap_set3 R1.out _ _ _, bel_st3 QB4.out (Nat.le_succ _) _ _ _⟩)
         go_wp2_with fail
         obtain ⟨Z, hZ, Z1, Z2⟩ := LY.out
         rw [hZ]
         obtain ⟨z0, z1, z2⟩ := cells3 Z1
         refine bodyPost_ret (v := .tuple #[.agg #[.int .i64 xa, .int .i64 xt, .string xd], .int .i64 0]) (by simp [results, Tryz.results18, go_sem, z0, z1, z2]) rfl ?_
         exact ⟨by rw [HR.out]; rfl, Z2⟩
       · have heq' := ne_b heq
         have NN := zid (hni.out.next (by rw [HRN.out]; exact hql) (by rw [HX.out]; exact heq))
         clear heq
         go_wp2_with fail
         go_round
         case rel => exact ⟨q + 1, by omega, by go_num, NN⟩
         case measure => simp [intOf]; omega
     · obtain rfl : q = rn := by omega
       have NN := zid (show NoneTo (fun g => recsG S.d g.b) S.g o (m + 1) from NO.out.next (by rw [← HGL.out]; exact hlt) (by
        rw [HGG.out, HRS.out, HRN.out]
        exact hni.out))
       go_wp2_with fail
       go_roundw
       case rel => exact ⟨m + 1, by omega, by go_num, NN.out, R0.out, R1.out, QB4.out⟩
       case measure => simp [intOf]; omega
  · obtain rfl : m = gn := by omega
    have HR := zid (show readT S o = (Rp.zero, 11) from read_no HL.out (NO.out.all (by rw [← HGL.out]; exact Nat.le_refl _)))
    obtain ⟨y0, y1, y2⟩ := cells3 P1.out
    obtain ⟨yf0, yf1, yf2⟩ := frozen3 P1.out
    have LY := zid (show ∃ Z, ((wr.setCell ⟨w.heap.size + 1, 0, none⟩ (.int .i64 0)).setCell ⟨w.heap.size + 1, 1, none⟩ (.int .i64 0)).setCell ⟨w.heap.size + 1, 2, none⟩ (.string ⟨#[]⟩) = Z ∧ Z.heap[w.heap.size + 1]? = some (.cells #[.int .i64 0, .int .i64 0, .string ⟨#[]⟩] 47 (0, 0)) ∧ Below w.heap.size w Z from ⟨_, rfl, heap_set3 P1.out _ _ _, bel_st3 PB.out (Nat.le_succ _) _ _ _⟩)
    clear q0 q1 hb
    go_wp2_with fail
    obtain ⟨Z, hZ, Z1, Z2⟩ := LY.out
    rw [hZ]
    obtain ⟨z0, z1, z2⟩ := cells3 Z1
    refine bodyPost_ret (v := .tuple #[.agg #[.int .i64 0, .int .i64 0, .string ⟨#[]⟩], .int .i64 11]) (by simp [results, Tryz.results18, go_sem, z0, z1, z2]) rfl ?_
    exact ⟨by rw [HR.out]; rfl, Z2⟩
def fromF (S : St) (bytes most : Int) : Nat → Int → Int → Nat → List Rp.Rec
 | 0, _, _, _ => []
 | j + 1, k, n, len => if (len : Int) < most then (if bytes < n + ((Rp.putB (readT S k).1).length : Int) then [] else (readT S k).1 :: fromF S bytes most j (k + 1) (n + ((Rp.putB (readT S k).1).length : Int)) (len + 1)) else []
theorem fromF_succ (S : St) (bytes most : Int) (j : Nat) (k n : Int) (len : Nat) : fromF S bytes most (j + 1) k n len = if (len : Int) < most then (if bytes < n + ((Rp.putB (readT S k).1).length : Int) then [] else (readT S k).1 :: fromF S bytes most j (k + 1) (n + ((Rp.putB (readT S k).1).length : Int)) (len + 1)) else [] := rfl
def fromT (S : St) (o bytes most : Int) : List Rp.Rec := if o < floor S then [] else fromF S bytes most (S.s - o).toNat o 0 0
theorem readT_ok (S : St) (o : Int) : RecOk (readT S o).1 ∧ (readT S o).1.d.size ≤ 64 := by
 have hz : RecOk Rp.zero ∧ Rp.zero.d.size ≤ 64 := ⟨⟨by decide, by decide, by decide, by decide, by decide⟩, by decide⟩
 unfold readT
 split
 · exact hz
 · split
   · rename_i r hr
     have hm := List.mem_of_find?_eq_some hr
     rw [List.mem_flatMap] at hm
     obtain ⟨g, _, hm⟩ := hm
     unfold recsG at hm
     obtain ⟨ps, k, e, h1, h2, _⟩ := Gp.full_good ((dat S.d (segN g.b)).getD []) g.b
     rw [h1, List.mem_map] at hm
     obtain ⟨p, hp, rfl⟩ := hm
     have := h2.ok p hp
     exact ⟨RecOk.of this, this.2.2.2.2⟩
   · exact hz
def FrOut (w : World) (l : List Rp.Rec) (e : Ending) (w' : World) : Prop := ∃ v, e = .returned v ∧ IsRecs w' v l ∧ Below w.heap.size w w'
theorem FrOut.mk {w w' : World} {l rs : List Rp.Rec} {v : Value} (h : l = rs) (hr : IsRecs w' v rs) (b : Below w.heap.size w w') : FrOut w l (.returned v) w' := ⟨v, rfl, by rw [h]; exact hr, b⟩
theorem info_rec12 : (Tryz.prog.info? 47).map (fun i => (i.zero, i.size, i.bytes)) = some (some (.agg #[.int .i64 0, .int .i64 0, .string ByteArray.empty]), 3, 32) := by kernel_rfl
end Sto
section
open Go.RowKit Go.ChangeShapes Go.WideShapes Go.Deep Go.Joins
def prVal (p : Fp.Pr) : Value := .agg #[.int .u8 (p.k.toNat : Int), .string p.v]
def IsPrs (w : World) (v : Value) (l : List Fp.Pr) : Prop :=
 ∃ a cap, v = .slice a l.length cap ∧ l.length ≤ maxLen ∧ (∀ p ∈ l, p.v.size ≤ 9223372036854775807) ∧
  (l = [] ∨ ∃ b off, a = some ⟨b, off, none⟩ ∧ ∀ i, i < l.length →
   w.cell? ⟨b, off + i * 2, none⟩ = some (.int .u8 ((l.getD i Fp.zero).k.toNat : Int)) ∧ w.cell? ⟨b, off + i * 2 + 1, none⟩ = some (.string (l.getD i Fp.zero).v))
theorem IsPrs.below {B : Nat} {w w' : World} {v : Value} {l : List Fp.Pr} (h : IsPrs w v l) (hb : Below B w w') (hB : w.heap.size ≤ B) : IsPrs w' v l := by
 obtain ⟨a, cap, rfl, h1, h2, h3⟩ := h
 refine ⟨a, cap, rfl, h1, h2, ?_⟩
 rcases h3 with h3 | ⟨b, off, rfl, h4⟩
 · exact .inl h3
 · refine .inr ⟨b, off, rfl, fun i hi => ?_⟩
   obtain ⟨c0, c1⟩ := h4 i hi
   have hl := Nat.lt_of_lt_of_le (block_lt_of_cell c0) hB
   exact ⟨(hb.cell (p := ⟨b, off + i * 2, none⟩) hl).trans c0, (hb.cell (p := ⟨b, off + i * 2 + 1, none⟩) hl).trans c1⟩
theorem IsPrs.nil (w : World) (a : Option Addr) (cap : Nat) : IsPrs w (.slice a 0 cap) [] := ⟨a, cap, rfl, by simp, by simp, .inl rfl⟩
section
variable {H : Type} {enc : TypeId × Value → H} {w : World} {base : Nat} {spare : Nat → Bool} {held : Bool}
end
def prVals (l : List Fp.Pr) : List Value := l.flatMap fun p => [.int .u8 (p.k.toNat : Int), .string p.v]
theorem prVals_cons (p : Fp.Pr) (l : List Fp.Pr) : prVals (p :: l) = .int .u8 (p.k.toNat : Int) :: .string p.v :: prVals l := rfl
theorem prVals_append (a b : List Fp.Pr) : prVals (a ++ b) = prVals a ++ prVals b := by unfold prVals; simp
theorem prVals_len (l : List Fp.Pr) : (prVals l).length = l.length * 2 := by
 induction l with
 | nil => rfl
 | cons p l ih => rw [prVals_cons]; simp; omega
theorem prVals_snoc (l : List Fp.Pr) (p : Fp.Pr) : prVals (l ++ [p]) = prVals l ++ [.int .u8 (p.k.toNat : Int), .string p.v] := by rw [prVals_append]; rfl
theorem prVals_one (l : List Fp.Pr) : ∀ u ∈ prVals l, u.oneCell' = true := by
 intro u hu
 unfold prVals at hu
 rw [List.mem_flatMap] at hu
 obtain ⟨p, _, h⟩ := hu
 simp at h
 rcases h with rfl | rfl <;> rfl
theorem prVals_take (l : List Fp.Pr) : ∀ i, (prVals l).take (i * 2) = prVals (l.take i) := by
 induction l with
 | nil => intro i; simp [prVals]
 | cons p l ih =>
  intro i
  cases i with
  | zero => simp [prVals]
  | succ i => rw [show (i + 1) * 2 = i * 2 + 1 + 1 from by omega, prVals_cons, List.take_succ_cons, List.take_succ_cons, List.take_succ_cons, prVals_cons, ih]
theorem prVals_drop (l : List Fp.Pr) : ∀ i, (prVals l).drop (i * 2) = prVals (l.drop i) := by
 induction l with
 | nil => intro i; simp [prVals]
 | cons p l ih =>
  intro i
  cases i with
  | zero => simp
  | succ i => rw [show (i + 1) * 2 = i * 2 + 1 + 1 from by omega, prVals_cons, List.drop_succ_cons, List.drop_succ_cons, List.drop_succ_cons, ih]
theorem prVals_get (l : List Fp.Pr) : ∀ i, i < l.length → (prVals l)[i * 2]? = some (.int .u8 ((l.getD i Fp.zero).k.toNat : Int)) ∧ (prVals l)[i * 2 + 1]? = some (.string (l.getD i Fp.zero).v) := by
 induction l with
 | nil => intro i hi; simp at hi
 | cons p l ih =>
  intro i hi
  rw [prVals_cons]
  cases i with
  | zero => exact ⟨rfl, rfl⟩
  | succ i =>
   have h := ih i (by simpa using hi)
   rw [show (i + 1) * 2 = i * 2 + 2 from by omega]
   simpa using h
theorem prVals_set (l : List Fp.Pr) : ∀ i (v : ByteArray), i < l.length → (prVals l).set (i * 2 + 1) (.string v) = prVals (l.set i ⟨(l.getD i Fp.zero).k, v⟩) := by
 induction l with
 | nil => intro i v hi; simp at hi
 | cons p l ih =>
  intro i v hi
  cases i with
  | zero => rfl
  | succ i =>
   have h := ih i v (by simpa using hi)
   rw [show (i + 1) * 2 + 1 = i * 2 + 1 + 1 + 1 from by omega, prVals_cons, List.set_cons_succ, List.set_cons_succ, List.set_cons_succ, prVals_cons, h]
   rfl
theorem info_pr : (Tryz.prog.info? 88).map (fun i => (i.zero, i.size, i.bytes)) = some (some (.agg #[.int .u8 0, .string ByteArray.empty]), 2, 24) := by kernel_rfl
def Own (w : World) (base : Nat) (v : Value) (l : List Fp.Pr) : Prop := w.ownsRow base 88 2 v l.length (prVals l)
theorem Own.nil (w : World) (base : Nat) : Own w base (.slice none 0 0) [] := World.ownsRow_nil _ _ _ _
theorem Own.below {w w' : World} {base : Nat} {v : Value} {l : List Fp.Pr} (h : Own w base v l) (b : Below w.heap.size w w') : Own w' base v l := own_below h b
theorem Own.is {w : World} {base : Nat} {v : Value} {l : List Fp.Pr} (h : Own w base v l) (hm : l.length ≤ maxLen) (hb : ∀ p ∈ l, p.v.size ≤ 9223372036854775807) : IsPrs w v l := by
 rcases h.2 with ⟨rfl, h0⟩ | ⟨g, cap, cur, rfl, h1⟩
 · have : l = [] := by simpa using h0
   subst this
   exact IsPrs.nil w none 0
 · refine ⟨some ⟨g, 0, none⟩, cap, rfl, hm, hb, .inr ⟨g, 0, rfl, fun i hi => ?_⟩⟩
   obtain ⟨c0, c1⟩ := prVals_get l i hi
   have k0 := World.ownsRow.cells h (g := g) rfl _ _ c0
   have k1 := World.ownsRow.cells h (g := g) rfl _ _ c1
   rw [addr_plain] at k0 k1
   exact ⟨k0, k1⟩
theorem Own.open_ {w : World} {base : Nat} {v : Value} {l : List Fp.Pr} (h : Own w base v l) (hl : 0 < l.length) :
 ∃ g cap cur, v = .slice (some ⟨g, 0, none⟩) l.length cap ∧ base ≤ g ∧ w.heap[g]? = some (.cells cur 88 (0, 0)) ∧ l.length ≤ cap ∧ cap ≤ maxLen ∧ cur.size = cap * 2 ∧ cur.toList.take (l.length * 2) = prVals l := by
 rcases h.2 with ⟨_, h0⟩ | h1
 · omega
 · exact h1
theorem Own.mk {w : World} {base g cap : Nat} {cur : Array Value} {l : List Fp.Pr} (hb : base ≤ g) (hg : w.heap[g]? = some (.cells cur 88 (0, 0))) (hc : l.length ≤ cap) (hm : cap ≤ maxLen) (hs : cur.size = cap * 2) (ht : cur.toList.take (l.length * 2) = prVals l) :
 Own w base (.slice (some ⟨g, 0, none⟩) l.length cap) l := ⟨prVals_len l, .inr ⟨g, cap, cur, rfl, hb, hg, hc, hm, hs, ht⟩⟩
end
section
open Go.RowKit Go.Lib
def noughts : List Value := [.int .u8 0, .string ⟨#[]⟩]
theorem zero_pr : ∀ w, (zeroValue 88).run Tryz.prog w = .ok (.agg #[.int .u8 0, .string ⟨#[]⟩]) w := fun w => by kernel_rfl
theorem del_row (n cap i j g : Nat) (cur : Array Value) (xs : List Value) (w : World) (hij : j = i + 1) (hj : j ≤ n) (hnc : n ≤ cap)
 (hg : w.heap[g]? = some (.cells cur 88 (0, 0))) (hs : cur.size = cap * 2) (ht : cur.toList.take (n * 2) = xs) (h1 : ∀ u ∈ xs, u.oneCell' = true) :
 Calls Tryz.prog 138 #[.slice (some ⟨g, 0, none⟩) n cap, .int .i64 (i : Int), .int .i64 (j : Int)] w fun e w' =>
  e = .returned (.slice (some ⟨g, 0, none⟩) (i + (n - j)) cap) ∧ w' = (w.drew.setCells g (i * 2) (xs.drop (j * 2))).setCells g ((i + (n - j)) * 2) noughts := by
 have mixed : Tryz.prog.follows Departure.mixedOrders = true := by kernel_rfl
 obtain ⟨i0, hi0, hz0, hz1, hz2⟩ := info_parts info_pr
 have hxl : xs.length = n * 2 := by rw [← ht, List.length_take, Array.length_toList]; omega
 obtain ⟨news, hnews⟩ : ∃ news, news = xs.drop (j * 2) := ⟨_, rfl⟩
 have hnl : news.length = (n - j) * 2 := by rw [hnews, List.length_drop, hxl]; omega
 have hgd : w.drew.heap[g]? = some (.cells cur 88 (0, 0)) := hg
 obtain ⟨A, hA, hsrc⟩ : ∃ A : Addr, (if cap = j then some (⟨g, 0, none⟩ : Addr) else some ⟨g, j * 2, none⟩) = some A ∧ Hid (∀ t u, news[t]? = some u → w.drew.cell? (A.add t) = some u) := by
  by_cases h : cap = j
  · refine ⟨⟨g, 0, none⟩, by simp [h], fun t u hu => ?_⟩
    have h0 : news.length = 0 := by rw [hnl]; omega
    rw [List.length_eq_zero_iff.1 h0] at hu
    simp at hu
  · refine ⟨⟨g, j * 2, none⟩, by simp [h], fun t u hu => ?_⟩
    rw [addr_plain]
    rw [hnews] at hu
    exact row_part hgd ht t u hu
 have s1 : Hid (news.length = (n - j) * 2) := hnl
 have s2 : Hid (∀ u ∈ news, u.oneCell' = true) := by
  intro u hu
  rw [hnews] at hu
  exact h1 u (List.mem_of_mem_drop hu)
 have s3 : Hid (∀ t, t < news.length → (w.drew.cell? ⟨g, 0 + i * 2 + t, none⟩).isSome = true ∧ w.drew.frozen? ⟨g, 0 + i * 2 + t, none⟩ = false) := by
  intro t htl
  rw [hnl] at htl
  exact row_some hgd _ (by omega)
 obtain ⟨W1, hW1⟩ : ∃ W1, W1 = w.drew.setCells g (i * 2) news := ⟨_, rfl⟩
 have hg1 : W1.heap[g]? = some (.cells (splice cur (i * 2) news) 88 (0, 0)) := by rw [hW1]; exact setCells_heap hgd (by rw [hnl]; omega)
 have hsz1 : (splice cur (i * 2) news).size = cap * 2 := by rw [splice_size (by rw [hnl]; omega)]; exact hs
 have hcl : ∀ ty c, (Builtin.clear_ #[43] ty #[.slice (some ⟨g, (i + (n - j)) * 2, none⟩) (n - (i + (n - j))) c]).run Tryz.prog W1 = .ok (.tuple #[]) (W1.setCells g ((i + (n - j)) * 2) noughts) := by
  intro ty c
  rw [show n - (i + (n - j)) = 1 from by omega]
  refine run_clear_one W1 _ _ ty _ noughts Tryz.underlying43 zero_pr (by kernel_rfl) (by intro v hv; simp [noughts] at hv; rcases hv with rfl | rfl <;> rfl) g _ c (fun t htl => ?_)
  have : noughts.length = 2 := rfl
  exact row_some hg1 _ (by omega)
 have hW : Hid (W1 = w.drew.setCells g (0 + i * 2) news) := by rw [Nat.zero_add]; exact hW1
 have HX : Hid (W1 = w.drew.setCells g (i * 2) (xs.drop (j * 2))) := by rw [← hnews]; exact hW1
 have hic : i ≤ cap := by omega
 have hjc : j ≤ cap := by omega
 have hlt : i < j := by omega
 have hne : ¬ ((i : Int) = (j : Int)) := by omega
 clear hij hW1 hg1 hgd hnews hnl ht hs hxl hg h1
 go_enter Tryz.func138, Tryz.ntmps138
 go_wp2_with fail
 go_region_law_o (refine step_append_room rfl (.tmp 22) (.tmp 25) 43 rfl 88 i0 2 Tryz.underlying43 hi0 hz1 g 0 i cap (by simp [Act.eval, Act.put]) A (n - j) (cap - j) news (by simp [Act.eval, Act.put]) s1.out hsrc.out s2.out (by omega) s3.out ?_; rw [← hW.out])
 go_wp2
 go_ret
 exact ⟨rfl, by rw [HX.out]⟩
end
end Go.Proofs.YtijbpdpkoamhbaaGreat
