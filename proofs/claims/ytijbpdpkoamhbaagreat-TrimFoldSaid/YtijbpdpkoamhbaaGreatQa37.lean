/-
  Parts of what the laws of this seat stand on: StoFr, StoFr2, TrmInw, TrmFrom.
-/
import Derived.Test.YtijbpdpkoamhbaaGreatQa1
import Derived.Laws.OwnMore
import Derived.Lib.AppendZeros
import Derived.Test.YtijbpdpkoamhbaaGreatQa25
import Derived.Test.YtijbpdpkoamhbaaGreatQa28
import Derived.Test.YtijbpdpkoamhbaaGreatQa35
import Derived.Test.YtijbpdpkoamhbaaGreatQa36
set_option maxRecDepth 100000
set_option maxHeartbeats 6400000
namespace Go.Proofs.YtijbpdpkoamhbaaGreat
namespace Sto
open Go.RowKit So Dsk Rts
theorem recVals_append (a b : List Rp.Rec) : recVals (a ++ b) = recVals a ++ recVals b := by unfold recVals; rw [List.flatMap_append]
theorem recs_news {W : World} {b off n c : Nat} {l : List Rp.Rec} (h : IsRecs W (.slice (some ⟨b, off, none⟩) n c) l) : ∀ j u, (recVals l)[j]? = some u → W.cell? ((⟨b, off, none⟩ : Addr).add j) = some u := by
 obtain ⟨a, cap, e, h1, h2, h3⟩ := h
 injection e with e1 e2 e3
 intro j u hj
 have hlt : j < (recVals l).length := (List.getElem?_eq_some_iff.1 hj).1
 rw [recVals_len] at hlt
 rcases h3 with rfl | ⟨b', off', ea, h4⟩
 · simp at hlt
 · rw [ea] at e1
   injection e1 with e1
   injection e1 with e1 e4 _
   subst e1 e4
   have hi : j / 3 < l.length := by omega
   obtain ⟨c0, c1, c2⟩ := h4 (j / 3) hi
   obtain ⟨v0, v1, v2⟩ := recVals_get l (j / 3) hi
   rw [addr_plain]
   have hc : j = j / 3 * 3 ∨ j = j / 3 * 3 + 1 ∨ j = j / 3 * 3 + 2 := by omega
   rcases hc with hc | hc | hc
   · rw [hc, v0] at hj; rw [hc]; exact c0.trans hj
   · rw [hc, v1] at hj; rw [hc, ← Nat.add_assoc]; exact c1.trans hj
   · rw [hc, v2] at hj; rw [hc, ← Nat.add_assoc]; exact c2.trans hj
theorem recVals_cells (l : List Rp.Rec) : ∀ u ∈ recVals l, u.oneCell' = true := by
 intro u hu
 unfold recVals at hu
 rw [List.mem_flatMap] at hu
 obtain ⟨r, _, hr⟩ := hu
 simp at hr
 rcases hr with rfl | rfl | rfl <;> rfl
theorem run_append_none0 {P : Program} {w : World} {base : Nat} {e : TypeId} {size : Nat} (t ty : TypeId) (i : TypeInfo) (ht : P.underlying t = some (.slice e)) (hi : P.info? e = some i)
 (v : Value) (n c : Nat) (xs : List Value) (hown : w.ownsRow base e size v n xs) :
 (Builtin.append_ #[t, t] ty #[v, .slice none 0 c]).run P w = .ok v w := by
 rcases hown.2 with ⟨rfl, rfl⟩ | ⟨g, cap, cur, rfl, _, _, hnc, _⟩
 · simp [Builtin.append_, run_underlying ht, sizeOf, typeInfo, hi, Builtin.lenOf, Builtin.firstCells]
 · simp [Builtin.append_, run_underlying ht, sizeOf, typeInfo, hi, Builtin.lenOf, Builtin.firstCells, hnc, storeCells]
theorem app_recs {W : World} {base : Nat} {v u : Value} {l fs : List Rp.Rec} (ty : TypeId) (ho : W.ownsRow base 47 3 v l.length (recVals l)) (hu : IsRecs W u fs) (hb : base ≤ W.heap.size) (hn : l.length + fs.length ≤ 1000000) :
 ∃ v' w', (Builtin.append_ #[56, 56] ty #[v, u]).run Tryz.prog W = .ok v' w' ∧ w'.ownsRow base 47 3 v' (l ++ fs).length (recVals (l ++ fs)) ∧ W.grownBy w' v.ownBlock := by
 obtain ⟨i0, hi, hz0, hz1, hz2⟩ := info_parts info_rec12
 have hu' := hu
 obtain ⟨a, cap, rfl, h1, h2, h3⟩ := hu
 rw [List.length_append, recVals_append]
 cases a with
 | none =>
  rcases h3 with rfl | ⟨b, off, e, _⟩
  · refine ⟨v, W, run_append_none0 _ ty i0 Tryz.underlying56 hi v _ cap _ ho, ?_, ⟨rfl, rfl, rfl, Nat.le_refl _, fun _ _ _ => rfl⟩⟩
    simpa [recVals] using ho
  · cases e
 | some ad =>
  obtain ⟨b, off, rfl⟩ | hz : (∃ b off, ad = ⟨b, off, none⟩) ∨ fs = [] := by
   rcases h3 with h3 | ⟨b, off, e, _⟩
   · exact .inr h3
   · exact .inl ⟨b, off, by injection e⟩
  · obtain ⟨v', w', hr, hown, hg, _⟩ := run_append_own W base 56 ty 47 i0 (.agg #[.int .i64 0, .int .i64 0, .string ByteArray.empty]) 3 32 Tryz.underlying56 hi hz0 hz1 hz2 rfl (by decide) v l.length _ ho ⟨b, off, none⟩ fs.length cap (recVals fs) (recVals_len fs) (recs_news hu') (recVals_cells fs) (by unfold maxLen; omega) (by omega) hb
    exact ⟨v', w', hr, hown, hg⟩
  · subst hz
    obtain ⟨v', w', hr, hown, hg, _⟩ := run_append_own W base 56 ty 47 i0 (.agg #[.int .i64 0, .int .i64 0, .string ByteArray.empty]) 3 32 Tryz.underlying56 hi hz0 hz1 hz2 rfl (by decide) v l.length _ ho ad 0 cap [] rfl (fun j u hj => by simp at hj) (fun u hu => by cases hu) (by unfold maxLen; simp at hn; omega) (by simp at hn; omega) hb
    exact ⟨v', w', hr, hown, hg⟩
theorem own_room {W : World} {base : Nat} {e : TypeId} {size n c : Nat} {a : Option Addr} {xs : List Value} (h : W.ownsRow base e size (.slice a n c) n xs) : n ≤ c := by
 rcases h.2 with ⟨h1, h2⟩ | ⟨g, cap, cur, h1, _, _, h2, _⟩
 · omega
 · injection h1 with _ _ h3
   omega
theorem ext_take (R : ByteArray) (n : Nat) : (R.extract 0 (min (n : Int) (R.size : Int)).toNat).data.toList = R.data.toList.take n := by
 rw [ext_list, List.drop_zero, Nat.sub_zero]
 have h : R.size = R.data.toList.length := by simp
 rcases Nat.le_total n R.size with h1 | h1
 · rw [show (min (n : Int) (R.size : Int)).toNat = n by omega]
 · rw [show (min (n : Int) (R.size : Int)).toNat = R.size by omega, List.take_of_length_le (by omega), List.take_of_length_le (by omega)]
theorem take_min (l : List Rp.Rec) (W : Nat) : l.take (min (W : Int) (l.length : Int)).toNat = l.take W := by
 rcases Nat.le_total W l.length with h1 | h1
 · rw [show (min (W : Int) (l.length : Int)).toNat = W by omega]
 · rw [show (min (W : Int) (l.length : Int)).toNat = l.length by omega, List.take_length, List.take_of_length_le h1]
theorem fr_end {w wr : World} {l T : List Rp.Rec} {base n c Wn : Nat} {va : Option Addr} (hown : wr.ownsRow base 47 3 (.slice va n c) l.length (recVals l)) (hn : l.length = n) (hm : l.length ≤ 1000000) (hok : ∀ r ∈ l, Rp.Ok r) (hT : T = l.take Wn) (hb : Below w.heap.size w wr) :
 FrOut w T (.returned (.slice va (min (Wn : Int) (n : Int)).toNat c)) wr := by
 subst hn
 refine FrOut.mk (rs := l.take (min (Wn : Int) (l.length : Int)).toNat) (by rw [take_min]; exact hT) ?_ hb
 exact (IsRecs.own hown (by unfold maxLen; omega) hok).take (by omega)
structure FrAt (S : St) (rs : List Rp.Rec) (i B gn : Nat) (p kk : Nat) : Prop where
 hp : i + p ≤ rs.length
 hb : (Rp.rowB ((rs.drop i).take p)).length ≤ B
 hk : kk ≤ gn
 lo : kk < gn → (S.g.getD kk Rt.zero).b ≤ ((i + p : Nat) : Int) ∧ ((i + p : Nat) : Int) ≤ (S.g.getD kk Rt.zero).b + (S.g.getD kk Rt.zero).n
 hi : kk = gn → i + p = rs.length
end Sto
namespace Trm
open Go.RowKit So Dsk Rts Sto
structure Inw (F : Nat) (S : St) (rs : List Rp.Rec) : Prop where
 ok : ∀ r ∈ rs, Rp.Ok r
 up : Gp.Rise 0 rs
 x : S.x = (rs.length : Int)
 s1 : S.s ≤ S.x
 fl : floor S = (F : Int)
 b0 : (S.g.getD 0 Rt.zero).b = (F : Int)
 n0 : 0 < S.g.length
 fx : (F : Int) ≤ S.x
 at_ : ∀ {i : Nat}, i < S.g.length → At S rs i
 rd : ∀ i : Nat, F ≤ i → ∀ h : i < rs.length, readT S (i : Int) = (rs[i], 0)
theorem row_small : ∀ l : List Rp.Rec, (∀ r ∈ l, Rp.Ok r) → (Rp.rowB l).length ≤ 81 * l.length
 | [], _ => Nat.le_refl _
 | r :: l, h => by
  have ih := row_small l fun x hx => h x (mcm hx)
  have h1 := Rp.putB_le r
  rw [Rp.putB_yes (Rp.fault_zero (h r mcs))] at h1
  rw [Rp.rowB_cons, List.length_append, List.length_cons]
  omega
def pad (n : Nat) : List Rp.Rec := (List.range n).map fun (i : Nat) => (⟨(i : Int), 0, ⟨#[]⟩⟩ : Rp.Rec)
theorem pad_len (n : Nat) : (pad n).length = n := by unfold pad; simp
theorem pad_ok {n : Nat} (hn : n ≤ 1099511627776) : ∀ r ∈ pad n, Rp.Ok r := fun r hr => by
 unfold pad at hr
 rw [List.mem_map] at hr
 obtain ⟨i, hi, rfl⟩ := hr
 rw [List.mem_range] at hi
 exact ⟨by show (0 : Int) ≤ (i : Int); omega, by show (i : Int) ≤ _; omega, by show (0 : Int) ≤ 0; omega, by show (0 : Int) ≤ 1099511627776; omega, by show 0 ≤ 64; omega⟩
theorem pad_rise : ∀ n : Nat, Gp.Rise 0 (pad n)
 | 0 => trivial
 | n + 1 => by
  have e : pad (n + 1) = pad n ++ [⟨(n : Int), 0, ⟨#[]⟩⟩] := by unfold pad; rw [List.range_succ, List.map_append]; rfl
  rw [e]
  exact rise_snoc 0 _ _ (pad_rise n) (by rw [pad_len]; show (n : Int) = _; omega)
theorem rise_app : ∀ (b : Int) (l m : List Rp.Rec), Gp.Rise b l → Gp.Rise (b + l.length) m → Gp.Rise b (l ++ m)
 | b, [], m, _, h => by simpa using h
 | b, r :: l, m, h, h2 => ⟨h.1, rise_app (b + 1) l m h.2 (by rw [List.length_cons] at h2; rw [show b + 1 + (l.length : Int) = b + ((l.length + 1 : Nat) : Int) from by omega]; exact h2)⟩
theorem Inw.at_of {q F : Int} {S : St} {s0 : List Fp.Pr} {rs : List Rp.Rec} (h : Lg.Log q S F s0 rs) {i : Nat} (hi : i < S.g.length) : At S (pad F.toNat ++ rs) i := by
 obtain ⟨t, l, r, e1, e2, e3, e4, e5, e6, e7, e8⟩ := h.seg
 have hf := h.f0
 have hpl := pad_len F.toNat
 have e6 := e6.dat
 obtain ⟨g, hg⟩ : ∃ g, lastG S = g := ⟨_, rfl⟩
 rw [hg] at e1 e4 e5 e6 e7 e8
 have hlen : rs.length = l.length + r.length := by rw [e2, List.length_append]
 have hlen2 : (pad F.toNat ++ rs).length = F.toNat + (l.length + r.length) := by rw [List.length_append, hpl, hlen]
 rw [e1, List.length_append, List.length_singleton] at hi
 by_cases ht : i < t.length
 · obtain ⟨c1, c2, c3, c4, c5⟩ := e3.so.at_ (pad F.toNat) r g hf (by rw [hpl]; omega) (by omega) i ht
   have e : S.g.getD i Rt.zero = t.getD i Rt.zero := by rw [e1]; simp [List.getD_eq_getElem?_getD, List.getElem?_append_left ht]
   rw [← e2] at c4
   refine ⟨by rw [e]; exact c1, by rw [e]; omega, by rw [e, hlen2]; omega, by rw [e]; exact c4, fun _ => ⟨by rw [e, ← c5, e1], by rw [e]; exact c2⟩, fun h => ?_⟩
   rw [e1, List.length_append, List.length_singleton] at h
   omega
 · obtain rfl : i = t.length := by omega
   have e : S.g.getD t.length Rt.zero = g := by rw [e1]; simp [List.getD_eq_getElem?_getD]
   refine ⟨by rw [e]; omega, by rw [e]; omega, by rw [e, hlen2]; omega, ?_, fun h => ?_, fun _ => by rw [e, hlen2]; omega⟩
   · rw [e, e6, e4, e5, Int.toNat_natCast, e2, ← List.append_assoc, List.drop_left' (by rw [List.length_append, hpl]; omega), List.take_of_length_le (Nat.le_refl _)]
   · rw [e1, List.length_append, List.length_singleton] at h
     omega
theorem inw_of {q F : Int} {S : St} {s0 : List Fp.Pr} {rs : List Rp.Rec} (h : Lg.Log q S F s0 rs) : Inw F.toNat S (pad F.toNat ++ rs) := by
 have hf := h.f0
 have hpl := pad_len F.toNat
 have hx := h.x
 have hfx := h.fx
 obtain ⟨b1, b2, b3⟩ := h.bases
 have hfl := h.fl
 have hn : 0 < S.g.length := List.length_pos_iff.2 fun e => by have := h.last_mem; rw [e] at this; cases this
 refine ⟨fun r hr => ?_, rise_app 0 _ _ (pad_rise _) (by rw [hpl, show (0 : Int) + (F.toNat : Int) = F by omega]; exact h.up), by rw [List.length_append, hpl, hx]; omega, h.hi, by omega, ?_, hn, by omega, fun hi => Inw.at_of h hi, fun i hi hl => ?_⟩
 · rcases List.mem_append.1 hr with hr | hr
   · exact pad_ok (by omega) r hr
   · exact h.ok r hr
 · unfold floor at hfl
   cases hg : S.g with
   | nil => rw [hg] at hn; cases hn
   | cons a t => rw [hg] at hfl; show a.b = _; have : a.b = F := hfl; omega
 · rw [List.length_append, hpl] at hl
   have := h.read (i := i - F.toNat) (by omega)
   rw [show F + ((i - F.toNat : Nat) : Int) = (i : Int) by omega] at this
   rw [this, List.getElem_append_right (by omega)]
   simp only [hpl]
theorem Inw.all {F : Nat} {S : St} {rs : List Rp.Rec} (h : Inw F S rs) : Inw F { S with s := S.x } rs :=
 ⟨h.ok, h.up, h.x, Int.le_refl _, h.fl, h.b0, h.n0, h.fx, fun hi => by obtain ⟨a1, a2, a3, a4, a5, a6⟩ := h.at_ hi; exact ⟨a1, a2, a3, a4, a5, a6⟩, h.rd⟩
theorem Inw.held {F : Nat} {S : St} {rs : List Rp.Rec} (h : Inw F S rs) (hl : rs.length ≤ 1000000) {i k : Nat} (hk : k < S.g.length) (h1 : (S.g.getD k Rt.zero).b ≤ (i : Int)) (h2 : (i : Int) ≤ (S.g.getD k Rt.zero).b + (S.g.getD k Rt.zero).n) :
 Held12 S rs i k (i - (S.g.getD k Rt.zero).b.toNat) ((rs.drop (S.g.getD k Rt.zero).b.toNat).take (S.g.getD k Rt.zero).n.toNat) := by
 have a := h.at_ hk
 have hb := a.b0
 have hn := a.n0
 have hle := a.le
 have hnx := a.nx
 have hfin := a.fin
 have hlen : ((rs.drop (S.g.getD k Rt.zero).b.toNat).take (S.g.getD k Rt.zero).n.toNat).length = (S.g.getD k Rt.zero).n.toNat := by
  rw [List.length_take, List.length_drop]; omega
 refine ⟨by omega, ⟨hb, by omega⟩, a.dat, fun r hr => h.ok r (List.mem_of_mem_drop (List.mem_of_mem_take hr)), by rw [hlen]; omega, by rw [hlen]; omega, ?_, fun e => ?_, fun e => ?_⟩
 · rw [hlen, List.drop_take, List.drop_drop]
   congr 2
   omega
 · rw [hlen, (hnx e).1]; omega
 · have := hfin e
   rw [hlen]; omega
theorem Inw.hold {F : Nat} {S : St} {rs : List Rp.Rec} (h : Inw F S rs) (hl : rs.length ≤ 1000000) {i k : Nat} (hF : F ≤ i) (hi : i < rs.length) (hk : Hold S.g (i : Int) k) : ∃ j m, Held12 S rs i k j m ∧ j < m.length := by
 have a := h.at_ hk.lt
 have h1 : (S.g.getD k Rt.zero).b ≤ (i : Int) := by
  rcases hk.le with rfl | e
  · rw [h.b0]; omega
  · exact e
 have h2 : (i : Int) < (S.g.getD k Rt.zero).b + (S.g.getD k Rt.zero).n := by
  rcases Nat.lt_or_ge (k + 1) S.g.length with e | e
  · have := hk.up (k + 1) (by omega) e
    rw [(a.nx e).1] at this
    exact this
  · have := a.fin (by have := hk.lt; omega)
    omega
 refine ⟨_, _, Inw.held h hl hk.lt h1 (by omega), ?_⟩
 have hb := a.b0
 have hn := a.n0
 have hle := a.le
 rw [List.length_take, List.length_drop]
 omega
theorem Inw.fromF {F : Nat} {S : St} {rs : List Rp.Rec} (h : Inw F S rs) (B M : Int) : ∀ (j k len : Nat) (n : Int), F ≤ k → k + j ≤ rs.length → 0 ≤ n → n ≤ B →
 fromF S B M j (k : Int) n len = (fit (B - n).toNat ((rs.drop k).take j)).take (M - len).toNat
 | 0, k, len, n, _, _, _, _ => by rw [List.take_zero, fit_nil, List.take_nil]; rfl
 | j + 1, k, len, n, hF, hk, h0, h1 => by
  have hi : k < rs.length := by omega
  have hok := h.ok _ (List.getElem_mem hi)
  rw [fromF_succ, h.rd k hF hi, Rp.putB_yes (Rp.fault_zero hok), List.drop_eq_getElem_cons hi, List.take_succ_cons]
  by_cases hm : (len : Int) < M
  · rw [if_pos hm]
    by_cases hb : B < n + ((Fr.fr (Rp.body rs[k])).length : Int)
    · rw [if_pos hb, fit_no (by omega), List.take_nil]
    · rw [if_neg hb, fit_yes (by omega), show (M - (len : Int)).toNat = (M - ((len + 1 : Nat) : Int)).toNat + 1 from by omega, List.take_succ_cons]
      have := h.fromF B M j (k + 1) (len + 1) (n + ((Fr.fr (Rp.body rs[k])).length : Int)) (by omega) (by omega) (by omega) (by omega)
      rw [show ((k + 1 : Nat) : Int) = (k : Int) + 1 from by omega] at this
      rw [this]
      congr 3
      omega
  · rw [if_neg hm, show (M - (len : Int)).toNat = 0 from by omega, List.take_zero]
theorem Inw.fit {F : Nat} {S : St} {rs : List Rp.Rec} (h : Inw F S rs) {o : Nat} (hF : F ≤ o) (B M : Int) (hB : 0 ≤ B) (ho : (o : Int) < S.s) :
 fromT S (o : Int) B M = (fit B.toNat (rs.drop o)).take (min M (S.s - o)).toNat := by
 have hx := h.x
 have h1 := h.s1
 unfold fromT
 rw [h.fl, if_neg (by omega), h.fromF B M _ o 0 0 hF (by omega) (Int.le_refl _) hB, fit_take, List.take_take]
 congr 2
 · omega
 · omega
theorem from13_any (fa ga : Option Addr) (fn fc gn gc : Nat) (S : St) (F : Nat) (rs : List Rp.Rec) (o by_ most : Int) (w : World) (hf : IsL FL w (.slice fa fn fc) S.d.f) (hg : IsL SL w (.slice ga gn gc) S.g) (hB : Stb S) (hI : Inw F S rs) (hl : rs.length ≤ 100000) (hb : 0 ≤ by_ ∧ by_ ≤ 9223372036854775807) (hm : most ≤ 1000000) :
 Calls Tryz.prog 52 #[stVal (.slice fa fn fc) (.slice ga gn gc) S, .int .i64 o, .int .i64 by_, .int .i64 most] w (FrOut w (fromT S o by_ most)) := by
 have hne : S.g ≠ [] := List.length_pos_iff.1 hI.n0
 have hgl := hg.len.1
 have q0 := heap_alloc_new w (.cells #[.slice fa fn fc, .int .i64 S.d.c, .bool S.d.a, .int .i64 S.d.l, .bool S.d.x, .int .i64 S.v, .slice ga gn gc, .int .i64 S.x, .int .i64 S.s, .int .i64 S.z, .int .u32 S.c] 32)
 have QB := zid ((Below.refl w.heap.size w).alloc (Nat.le_refl _) (.cells #[.slice fa fn fc, .int .i64 S.d.c, .bool S.d.a, .int .i64 S.d.l, .bool S.d.x, .int .i64 S.v, .slice ga gn gc, .int .i64 S.x, .int .i64 S.s, .int .i64 S.z, .int .u32 S.c] 32))
 have FLO := zid fun (W : World) (h : IsL SL W (.slice ga gn gc) S.g) => floor12_any (.slice fa fn fc) (.slice ga gn gc) S W h hne
 rw [hI.fl] at FLO
 have hFx : (F : Int) ≤ 1000000 := by have := hI.fx; have := hI.x; omega
 have Q0 := zid q0
 have F0 := zid hf
 have G0 := zid hg
 unfold stVal at FLO ⊢
 by_cases hlo : o < floor S ∨ S.s ≤ o ∨ most < 1
 · have HF := zid (fromT_lo (S := S) (B := by_) hlo)
   rw [hI.fl] at hlo
   have key : o < (F : Int) ∨ (¬ o < (F : Int) ∧ S.s ≤ o) ∨ (¬ o < (F : Int) ∧ ¬ S.s ≤ o ∧ most < 1) := by omega
   obtain ⟨⟨k0, k1, k2, k3, k4⟩, k5, k6, k7, k8, k9, k10⟩ := cellsS q0
   clear hlo hI hB hf hg hne hgl hl hb hm q0
   rcases key with h1 | ⟨h1, h2⟩ | ⟨h1, h2, h3⟩
   all_goals
    go_enter Tryz.func52, Tryz.ntmps52
    go_upto_region 1 with (fail)
    generalize World.alloc w _ = w0 at Q0 QB k0 k1 k2 k3 k4 k5 k6 k7 k8 k9 k10 ⊢
    go_wp2_with fail
    refine (FLO.out _ (G0.out.keep QB.out)).mono ?_
    rintro en w1 ⟨rfl, b1⟩
    have PB := zid (QB.out.trans (b1.mono QB.out.size))
    have Q1 := hkeep Q0.out b1
    clear b1 k0 k1 k2 k3 k4 k5 k6 k7 k8 k9 k10
    obtain ⟨⟨k0, k1, k2, k3, k4⟩, k5, k6, k7, k8, k9, k10⟩ := cellsS Q1
    clear Q1
    go_wp2_with fail
    go_ret
    exact FrOut.mk HF.out (IsRecs.nil _ none 0) PB.out
 have h1 : ¬ o < (F : Int) := by have := hI.fl; omega
 have h2 : ¬ S.s ≤ o := by omega
 have h3 : ¬ most < 1 := by omega
 obtain ⟨i, rfl⟩ : ∃ i : Nat, o = (i : Int) := ⟨o.toNat, by omega⟩
 obtain ⟨B, rfl⟩ : ∃ B : Nat, by_ = (B : Int) := ⟨by_.toNat, by omega⟩
 have hxs := hI.s1
 have hxl := hI.x
 have HFT := hI.fit (show F ≤ i by omega) (B : Int) most (by omega) (show (i : Int) < S.s by omega)
 rw [Int.toNat_natCast] at HFT
 obtain ⟨Wn, hWn⟩ : ∃ Wn : Nat, min most (S.s - (i : Int)) = (Wn : Int) := ⟨(min most (S.s - (i : Int))).toNat, by omega⟩
 rw [hWn, Int.toNat_natCast] at HFT
 have hwsub : IntKind.i64.wrap (S.s - (i : Int)) = S.s - (i : Int) := IntWalk.i64_in _ ⟨by omega, by omega⟩
 have HO := zid fun (W : World) (h : IsL SL W (.slice ga gn gc) S.g) => holder12_any (.slice ga gn gc) S.g (i : Int) W h hne hB.n
 have HI := zid (And.intro hI (And.intro hB hl))
 have HN := zid (And.intro hgl.symm (show i < rs.length ∧ F ≤ i by omega))
 replace HFT := zid HFT
 have HWN := zid hWn
 have hB6 : (B : Int) ≤ 9223372036854775807 := hb.2
 obtain ⟨⟨k0, k1, k2, k3, k4⟩, k5, k6, k7, k8, k9, k10⟩ := cellsS q0
 clear hlo hI hB hf hg hne hgl hl hb hm q0 hxs hxl hWn
 go_enter Tryz.func52, Tryz.ntmps52
 go_upto_region 1 with (fail)
 generalize World.alloc w _ = w0 at Q0 QB k0 k1 k2 k3 k4 k5 k6 k7 k8 k9 k10 ⊢
 go_wp2_with fail
 refine (FLO.out _ (G0.out.keep QB.out)).mono ?_
 rintro en w1 ⟨rfl, b1⟩
 have PB := zid (QB.out.trans (b1.mono QB.out.size))
 have Q1 := hkeep Q0.out b1
 have HQ1 := zid Q1
 clear b1 k0 k1 k2 k3 k4 k5 k6 k7 k8 k9 k10 Q0 QB
 obtain ⟨⟨k0, k1, k2, k3, k4⟩, k5, k6, k7, k8, k9, k10⟩ := cellsS Q1
 clear Q1
 go_upto_region 5 with (fail)
 rw [HWN.out]
 go_wp2_with fail
 refine (HO.out _ (G0.out.keep PB.out)).mono ?_
 rintro en w2 ⟨k0n, rfl, hh, b2⟩
 have HA := zid (show FrAt S rs i B gn 0 k0n from by
  obtain ⟨hI, hB, hl⟩ := HI.out
  have hil := HN.out.2.1
  have a := hI.at_ hh.lt
  obtain ⟨j, m, hd, hj⟩ := Inw.hold hI (by omega) HN.out.2.2 hil hh
  have h1 := hd.o
  refine ⟨by omega, by rw [List.take_zero, Rp.rowB_nil]; exact Nat.zero_le _, by rw [← HN.out.1]; exact Nat.le_of_lt hh.lt, fun _ => ⟨by rw [Nat.add_zero]; omega, ?_⟩, fun e => by have := hh.lt; have := HN.out.1; omega⟩
  rw [Nat.add_zero]
  rcases Nat.lt_or_ge (k0n + 1) S.g.length with e | e
  · have := hh.up (k0n + 1) (by omega) e
    rw [(a.nx e).1] at this
    omega
  · have := a.fin (by have := hh.lt; omega)
    omega)
 have PB2 := zid (PB.out.trans (b2.mono PB.out.size))
 have Q2 := zid (hkeep HQ1.out b2)
 clear hh b2 k0 k1 k2 k3 k4 k5 k6 k7 k8 k9 k10 PB HQ1 HO FLO hwsub
 go_wp2_with fail
 go_loopw [9, 11, 12] (fun v n k wr => ∃ p kk : Nat, n = .int .i64 ((B - (Rp.rowB ((rs.drop i).take p)).length : Nat) : Int) ∧ k = .int .i64 kk ∧ wr.ownsRow w.heap.size 47 3 v ((rs.drop i).take p).length (recVals ((rs.drop i).take p)) ∧ Hid (FrAt S rs i B gn p kk) ∧ wr.heap[w.heap.size]? = some (.cells #[.slice fa fn fc, .int .i64 S.d.c, .bool S.d.a, .int .i64 S.d.l, .bool S.d.x, .int .i64 S.v, .slice ga gn gc, .int .i64 S.x, .int .i64 S.s, .int .i64 S.z, .int .u32 S.c] 32 (0, 0)) ∧ Below w.heap.size w wr) (fun _ _ k _ => gn - (intOf k).toNat)
 case atStart => exact ⟨0, k0n, by rw [List.take_zero, Rp.rowB_nil]; rfl, rfl, by rw [List.take_zero]; exact World.ownsRow_nil _ _ _ _, HA, Q2.out, PB2.out⟩
 case round =>
  clear HA Q2 PB2
  obtain ⟨p, kk, rfl, rfl, hown, HA, q0, hbw⟩ := hrel
  obtain ⟨⟨k0, k1, k2, k3, k4⟩, k5, k6, k7, k8, k9, k10⟩ := cellsS q0
  obtain ⟨va, vc, rfl⟩ := own_slice1 hown
  have HQ := zid q0
  have HOW := zid hown
  have HBW := zid hbw
  have hkn := HA.out.hk
  have hpl : ((rs.drop i).take p).length = p := by rw [List.length_take, List.length_drop]; have := HA.out.hp; omega
  have HP := zid hpl
  rw [hpl]
  have hbl := HA.out.hb
  clear q0 hown hbw hpl
  by_cases hk : kk < gn
  · by_cases hp : p < Wn
    · have hki : (kk : Int) < (gn : Int) := by omega
      have hpi : (p : Int) < (Wn : Int) := by omega
      obtain ⟨x, hx⟩ : ∃ x : Nat, i + p = x := ⟨_, rfl⟩
      have hxl : x ≤ 1000000 := by have := HA.out.hp; have := HI.out.2.2; omega
      have hwn : IntKind.i64.wrap ((i : Int) + (p : Int)) = (x : Int) := by
       rw [show (i : Int) + (p : Int) = (x : Int) from by omega]
       exact IntWalk.i64_in _ ⟨by omega, by omega⟩
      obtain ⟨j, m, HD⟩ : ∃ j m, Hid (Held12 S rs x kk j m) := ⟨_, _, zid (Inw.held HI.out.1 (by have := HI.out.2.2; omega) (by rw [HN.out.1]; exact hk) (by rw [← hx]; exact (HA.out.lo hk).1) (by rw [← hx]; exact (HA.out.lo hk).2))⟩
      have TL := fun (W : World) (h : IsL FL W (.slice fa fn fc) S.d.f) => tail12_any fa fn fc S.d (S.g.getD kk Rt.zero).b (S.g.getD kk Rt.zero).n (S.g.getD kk Rt.zero).z m j W h HI.out.2.1.d HD.out.ok HD.out.b HD.out.d HD.out.le (by have := HD.out.n; have := HI.out.2.2; omega)
      rw [← HD.out.o] at TL
      unfold dkVal at TL
      obtain ⟨R, hR⟩ : ∃ R : ByteArray, (⟨(Rp.rowB (m.drop j)).toArray⟩ : ByteArray) = R := ⟨_, rfl⟩
      rw [hR] at TL
      have HRL := zid (show R.data.toList = Rp.rowB (m.drop j) from by rw [← hR])
      replace TL := zid TL
      obtain ⟨gb, goff, rfl, c0, c1, c2⟩ := sg_at (G0.out.keep HBW.out) hk
      have hgb := block_lt_of_cell c0
      have hbx : w.heap.size < wr.heap.size := (Array.getElem?_eq_some_iff.1 HQ.out).1
      obtain ⟨lf, hlf⟩ : ∃ lf, B - (Rp.rowB ((rs.drop i).take p)).length = lf := ⟨_, rfl⟩
      rw [hlf]
      have HLF := zid hlf
      have HX := zid hx
      have hlb : lf ≤ 9223372036854775807 := by omega
      clear hlf hx hbl hR
      go_upto_region 9 with (fail)
      go_cut [14] (fun v wc => v = .string R ∧ Below wr.heap.size wr wc)
      case first =>
       go_region_held3 (fun W => (∀ b o, b < wr.heap.size → W.cell? ⟨b, o, none⟩ = wr.cell? ⟨b, o, none⟩) ∧ Below wr.heap.size wr W) (first | with_reducible assumption | with_reducible exact KW.dr _ | with_reducible exact KW.keep (by assumption) (Below.refl _ _).drew | with_reducible exact KW.keep (by assumption) (by assumption)) (first | (go_at_call 99; refine (TL.out _ (F0.out.keep (HBW.out.trans ((KW.bel (by assumption)).mono HBW.out.size)))).mono ?_; rintro e w5 ⟨rfl, q5⟩; have s5 := KW.keep (by assumption) q5))
       all_goals
        rename_i hh
        have LB := zid (KW.bel hh)
        clear hh
        go_wp2_with fail
        go_meet
        case rel => exact ⟨rfl, LB.out⟩
      case rest =>
       obtain ⟨rfl, hbc⟩ := hcut
       have HB3 := zid (HBW.out.trans (hbc.mono HBW.out.size))
       have HQ3 := zid (hkeep HQ.out hbc)
       have HOW3 := zid (own_below HOW.out hbc)
       clear hbc c0 c1 c2 hgb hbx k0 k1 k2 k3 k4 k5 k6 k7 k8 k9 k10 TL hwn
       go_wp2_with fail
       obtain ⟨er, hfull⟩ := full_fit (m := m.drop j) (b := (x : Int)) (fun y hy => HD.out.ok y (List.mem_of_mem_drop hy)) (by
        rw [HD.out.dr]
        have h1 := rise_take _ _ (m.length - j) (rise_drop rs 0 x HI.out.1.up)
        rwa [Int.zero_add] at h1) (by omega) (by omega) lf
       have SC := scan9_any (R.extract 0 (min (lf : Int) (R.size : Int)).toNat) (x : Int) wc (by
        have h1 := ext_take R lf
        have h2 := congrArg List.length h1
        rw [List.length_take] at h2
        have h3 : (R.extract 0 (min (lf : Int) (R.size : Int)).toNat).size = (R.extract 0 (min (lf : Int) (R.size : Int)).toNat).data.toList.length := by simp
        have h4 := row_small (m.drop j) (fun y hy => HD.out.ok y (List.mem_of_mem_drop hy))
        have h5 := congrArg List.length HRL.out
        have h6 : (m.drop j).length = m.length - j := List.length_drop
        have h7 := HD.out.n
        have h8 := HI.out.2.2
        omega) (by omega) (by omega)
       rw [ext_take, HRL.out, hfull] at SC
       have hle := fit_le (m.drop j) lf
       have hmd : (m.drop j).length = m.length - j := List.length_drop
       have hpre := fit_pre (m.drop j) lf
       have hall := fun h => fit_all (m.drop j) lf h
       have hRz : R.size = (Rp.rowB (m.drop j)).length := by rw [← HRL.out]; simp
       obtain ⟨fs, hfs⟩ : ∃ fs, fit lf (m.drop j) = fs := ⟨_, rfl⟩
       rw [hfs] at SC hle hpre hall
       have HFS := zid hfs
       obtain ⟨fz, hfz⟩ : ∃ fz, (Rp.rowB fs).length = fz := ⟨_, rfl⟩
       rw [hfz] at SC hle
       have HFZ := zid hfz
       have hfl : fs.length ≤ 200000 := by
        obtain ⟨c, hc1, hc2⟩ := hpre
        rw [hc2, List.length_take]
        have := HD.out.n
        have := HI.out.2.2
        omega
       have HFL := zid hfl
       have HLE := zid hle
       have HRZ := zid hRz
       have HALL := zid hall
       have HPRE := zid hpre
       have HMD := zid hmd
       replace SC := zid SC
       clear hfull hle hmd hpre hall hRz hfs hfz hfl
       refine SC.out.mono ?_
       rintro en w5 ⟨v2, rfl, hv2, b5⟩
       rw [Gp.withAt_fst] at hv2
       have HB5 := zid (HB3.out.trans (b5.mono HB3.out.size))
       have HQ5 := zid (hkeep HQ3.out b5)
       have HOW5 := own_below HOW3.out b5
       obtain ⟨v', w6, hrun, hown6, hgr⟩ := app_recs 56 HOW5 hv2 HB5.out.size (by rw [HP.out]; have := HA.out.hp; have := HI.out.2.2; have := HFL.out; omega)
       obtain ⟨va', vc', rfl⟩ := own_slice1 hown6
       obtain ⟨n6, hn6⟩ : ∃ n6, ((rs.drop i).take p ++ fs).length = n6 := ⟨_, rfl⟩
       rw [hn6, HP.out] at hrun
       have HN6 := zid hn6
       have hroom : (n6 : Int) ≤ (vc' : Int) := by have := own_room hown6; omega
       have hn6b : n6 ≤ 1000000 := by
        rw [← hn6, List.length_append, HP.out]; have := HA.out.hp; have := HI.out.2.2; have := HFL.out; omega
       have HB6 := zid (HB5.out.grown hgr HB5.out.size (fun r hr => (World.ownsRow.lt HOW5 r hr).1))
       have HQ6 := zid (row_grown HQ5.out (by decide) HOW5 hgr)
       have HOW6 := zid (show w6.ownsRow w.heap.size 47 3 (.slice va' n6 vc') ((rs.drop i).take p ++ fs).length (recVals ((rs.drop i).take p ++ fs)) from by have h := hown6; rw [hn6] at h ⊢; exact h)
       have hwl : IntKind.i64.wrap ((lf : Int) - (fz : Int)) = (lf : Int) - (fz : Int) := IntWalk.i64_in _ ⟨by have := HLE.out; omega, by omega⟩
       have HRUN := zid hrun
       clear hv2 b5 HOW5 hgr hown6 SC hrun hn6
       dsimp only
       by_cases hbr : (fz : Int) < (R.size : Int)
       · have HF := zid (show fromT S (i : Int) (B : Int) most = ((rs.drop i).take p ++ fs).take Wn from by
          have hs : lf < (Rp.rowB (m.drop j)).length := by
           rcases Nat.lt_or_ge lf (Rp.rowB (m.drop j)).length with h | h
           · exact h
           · have h1 := HALL.out h
             have h2 := HFZ.out
             rw [h1] at h2
             have h3 := HRZ.out
             omega
          have hL : (rs.drop i).drop p = m.drop j ++ (rs.drop x).drop (m.length - j) := by
           rw [HD.out.dr, List.take_append_drop, List.drop_drop, HX.out]
          have h1 := from_stop HA.out.hb hL (by rw [HLF.out]; exact hs)
          rw [HLF.out, HFS.out] at h1
          rw [HFT.out, h1])
         have HOKL := zid (show ∀ y ∈ (rs.drop i).take p ++ fs, Rp.Ok y from fun y hy => by
          rcases List.mem_append.1 hy with hy | hy
          · exact HI.out.1.ok y (List.mem_of_mem_drop (List.mem_of_mem_take hy))
          · obtain ⟨c, _, hc⟩ := HPRE.out
            rw [hc] at hy
            exact HD.out.ok y (List.mem_of_mem_drop (List.mem_of_mem_take hy)))
         go_wp2_with (at_builtin; refine Lib.wpList_append_run _ rfl _ _ _ _ rfl _ _ rfl rfl _ _ HRUN.out ?_)
         go_ret
         exact fr_end HOW6.out HN6.out (by rw [HN6.out]; exact hn6b) HOKL.out HF.out HB6.out
       · have HM := zid (show fs = m.drop j from by
          refine HALL.out ?_
          have h1 := HLE.out
          have h2 := HRZ.out
          omega)
         have hgn : gn ≤ 1000 := by rw [← HN.out.1]; exact HI.out.2.1.n
         have hkw : IntKind.i64.wrap ((kk : Int) + 1) = (kk : Int) + 1 := IntWalk.i64_in _ ⟨by omega, by omega⟩
         have HT := zid (show (rs.drop i).take (p + (m.length - j)) = (rs.drop i).take p ++ fs from by
          rw [List.take_add, HM.out, HD.out.dr, List.drop_drop, HX.out])
         have HBN := zid (show (Rp.rowB ((rs.drop i).take (p + (m.length - j)))).length = (Rp.rowB ((rs.drop i).take p)).length + fz from by
          rw [HT.out, rowB_append, List.length_append, HFZ.out])
         have HFA := zid (show FrAt S rs i B gn (p + (m.length - j)) (kk + 1) from by
          have h1 := HLE.out
          have h2 := HLF.out
          have h3 := HA.out.hb
          have h4 := HX.out
          have h5 := congrArg List.length HD.out.dr
          rw [HMD.out, List.length_take, List.length_drop] at h5
          have h6 := HA.out.hp
          refine ⟨by omega, by rw [HBN.out]; omega, hk, fun h => ?_, fun h => ?_⟩
          · have h7 := HD.out.nx (by rw [HN.out.1]; exact h)
            have h8 := (HI.out.1.at_ (show kk + 1 < S.g.length by rw [HN.out.1]; exact h)).n0
            rw [h7]
            exact ⟨by omega, by omega⟩
          · have h7 := HD.out.fin (by rw [HN.out.1]; exact h)
            omega)
         go_wp2_with (at_builtin; refine Lib.wpList_append_run _ rfl _ _ _ _ rfl _ _ rfl rfl _ _ HRUN.out ?_)
         go_roundw
         case rel =>
          refine ⟨p + (m.length - j), kk + 1, ?_, by go_num, by rw [HT.out]; exact HOW6.out, HFA, HQ6.out, HB6.out⟩
          have h1 := HBN.out
          have h2 := HLF.out
          have h3 := HLE.out
          have h4 := HA.out.hb
          congr 1
          omega
         case measure => simp [intOf]; omega
    · have hki : (kk : Int) < (gn : Int) := by omega
      have hpi : ¬ (p : Int) < (Wn : Int) := by omega
      have hroom : (p : Int) ≤ (vc : Int) := by have := own_room HOW.out; rw [HP.out] at this; omega
      have HF := zid (show fromT S (i : Int) (B : Int) most = ((rs.drop i).take p).take Wn from by rw [HFT.out]; exact from_enough HA.out.hb (by omega))
      have HOKL := zid (show ∀ y ∈ (rs.drop i).take p, Rp.Ok y from fun y hy => HI.out.1.ok y (List.mem_of_mem_drop (List.mem_of_mem_take hy)))
      have HOW2 := zid (show wr.ownsRow w.heap.size 47 3 (.slice va p vc) ((rs.drop i).take p).length (recVals ((rs.drop i).take p)) from by have h := HOW.out; rwa [HP.out] at h ⊢)
      clear hbl
      go_wp2_with fail
      go_ret
      exact fr_end HOW2.out HP.out (by rw [HP.out]; have := HA.out.hp; have := HI.out.2.2; omega) HOKL.out HF.out HBW.out
  · have hki : ¬ (kk : Int) < (gn : Int) := by omega
    have hroom : (p : Int) ≤ (vc : Int) := by have := own_room HOW.out; rw [HP.out] at this; omega
    have HF := zid (show fromT S (i : Int) (B : Int) most = ((rs.drop i).take p).take Wn from by
     have h1 := HA.out.hi (by omega)
     have h2 : (rs.drop i).take p = rs.drop i := List.take_of_length_le (by rw [List.length_drop]; omega)
     have h3 := HA.out.hb
     rw [h2] at h3
     rw [HFT.out, h2, fit_all _ _ h3])
    have HOKL := zid (show ∀ y ∈ (rs.drop i).take p, Rp.Ok y from fun y hy => HI.out.1.ok y (List.mem_of_mem_drop (List.mem_of_mem_take hy)))
    have HOW2 := zid (show wr.ownsRow w.heap.size 47 3 (.slice va p vc) ((rs.drop i).take p).length (recVals ((rs.drop i).take p)) from by have h := HOW.out; rwa [HP.out] at h ⊢)
    clear hbl
    go_wp2_with fail
    go_ret
    exact fr_end HOW2.out HP.out (by rw [HP.out]; have := HA.out.hp; have := HI.out.2.2; omega) HOKL.out HF.out HBW.out
end Trm
end Go.Proofs.YtijbpdpkoamhbaaGreat
