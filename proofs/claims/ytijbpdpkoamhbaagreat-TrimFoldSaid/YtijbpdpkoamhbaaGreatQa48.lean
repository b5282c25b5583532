/-
  Parts of what the laws of this seat stand on: TrmFold.
-/
import Derived.Test.YtijbpdpkoamhbaaGreatQa1
import Derived.Test.YtijbpdpkoamhbaaGreatQa33
import Derived.Test.YtijbpdpkoamhbaaGreatQa34
import Derived.Test.YtijbpdpkoamhbaaGreatQa37
set_option maxRecDepth 100000
set_option maxHeartbeats 6400000
namespace Go.Proofs.YtijbpdpkoamhbaaGreat
namespace Trm
open Go.RowKit So Dsk Rts Sto
theorem fold_at {l : List Fp.Pr} {rs : List Rp.Rec} {k : Nat} (hk : k < rs.length) : Fp.fold l ((rs.take (k + 1)).map fun r => r.d) = Fp.step (Fp.fold l ((rs.take k).map fun r => r.d)) (rs.getD k Rp.zero).d := by
 rw [List.take_succ_eq_append_getElem hk, List.map_append, getD_lt hk]
 unfold Fp.fold
 rw [List.foldl_append]
 rfl
theorem fold_st {l : List Fp.Pr} {rs : List Rp.Rec} (hl : Fp.St l) (hr : ∀ r ∈ rs, r.d.size ≤ 64) (k : Nat) : Fp.St (Fp.fold l ((rs.take k).map fun r => r.d)) := Fp.St.fold hl fun s hs => by
 obtain ⟨r, h, rfl⟩ := List.mem_map.1 hs
 exact hr r (List.mem_of_mem_take h)
theorem rfold13_any (a : Option Addr) (n c : Nat) (rs : List Rp.Rec) (w : World) (hr : IsRecs w (.slice a n c) rs) (hd : ∀ r ∈ rs, r.d.size ≤ 64) :
 Calls Tryz.prog 23 #[.slice none 0 0, .slice a n c] w (SttOut w (Fp.fold [] (rs.map fun r => r.d))) := by
 have hn : n = rs.length := by obtain ⟨_, _, e, _⟩ := hr; injection e
 have hnm : n ≤ 9223372036854775807 := by obtain ⟨_, _, _, h, _⟩ := hr; rw [hn]; unfold maxLen at h; omega
 have HR := zid fun (W : World) (b : Below w.heap.size w W) (k : Nat) (hk : k < n) => (show ∃ g off, a = some ⟨g, off, none⟩ ∧ W.cell? ⟨g, off + k * 3 + 2, none⟩ = some (.string (rs.getD k Rp.zero).d) from by
  obtain ⟨a', cap, e, h1, h2, h3⟩ := hr
  injection e with e1 e2 e3
  rcases h3 with h3 | ⟨g, off, e4, h4⟩
  · rw [h3] at e2; simp at e2; omega
  · rw [e4] at e1
    obtain ⟨_, _, c2⟩ := h4 k (by omega)
    exact ⟨g, off, e1, (b.cell (p := ⟨g, off + k * 3 + 2, none⟩) (block_lt_of_cell c2)).trans c2⟩)
 have ST := zid fun (k : Nat) => fold_st Fp.St.nil hd k
 have FA := zid fun (k : Nat) (hk : k < n) => fold_at (l := []) (show k < rs.length by omega)
 have HE := zid (show (rs.take n) = rs from List.take_of_length_le (by omega))
 clear hr hd hn
 go_enter Tryz.func23, Tryz.ntmps23
 go_wp2_with fail
 go_loopw [0, 5] (fun v i wr => ∃ k : Nat, k ≤ n ∧ i = .int .i64 k ∧ ∃ va vn vc, v = .slice va vn vc ∧ Hid (IsPrs wr v (Fp.fold [] ((rs.take k).map fun r => r.d))) ∧ Hid (Below w.heap.size w wr)) (fun _ i _ => n - (intOf i).toNat)
 case atStart => exact ⟨0, Nat.zero_le _, rfl, none, 0, 0, rfl, zid (by rw [List.take_zero]; exact IsPrs.nil w none 0), zid (Below.refl _ _)⟩
 case round =>
  obtain ⟨k, hk, rfl, va, vn, vc, rfl, HV, HB⟩ := hrel
  by_cases hlt : k < n
  · obtain ⟨g, off, rfl, c2⟩ := HR.out wr HB.out k hlt
    have hu := (ST.out k).2
    have RS := fun (W : World) (h : IsPrs W (.slice va vn vc) (Fp.fold [] ((rs.take k).map fun r => r.d))) => rstep_any (.slice va vn vc) _ (rs.getD k Rp.zero).d W h hu
    rw [← FA.out k hlt] at RS
    replace RS := zid RS
    have hs1 := ST.out (k + 1)
    have HS1 := zid hs1
    generalize (rs.getD k Rp.zero).d = dd at *
    have hgb := block_lt_of_cell c2
    clear hu hs1
    go_wp2_with fail
    refine (RS.out _ HV.out).mono ?_
    rintro e w2 ⟨v2, rfl, ho, b2⟩
    have hI := own_prs ho HS1.out
    obtain ⟨ua, un, uc, rfl⟩ := prs_slice hI
    have HI := zid hI
    have HB2 := zid (HB.out.trans (b2.mono HB.out.size))
    clear ho b2 hI
    go_wp2_with fail
    go_roundw
    case rel => exact ⟨k + 1, by omega, by go_num, ua, un, uc, rfl, HI, HB2⟩
    case measure => simp [intOf]; omega
  · obtain rfl : k = n := by omega
    rw [HE.out] at HV
    go_wp2_with fail
    go_ret
    exact ⟨va, vn, vc, rfl, HV.out, HB.out⟩
end Trm
end Go.Proofs.YtijbpdpkoamhbaaGreat
