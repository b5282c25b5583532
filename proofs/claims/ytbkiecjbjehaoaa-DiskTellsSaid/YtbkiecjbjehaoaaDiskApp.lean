/-
  What disk's Append, Sync and Cut answer.
-/
import Derived.Test.YtbkiecjbjehaoaaDiskAll
import Derived.Deep.RegionWith
namespace Go.Proofs.Ytbkiecjbjehaoaa.Dsk
open Go.RowKit Go.Proofs.Ytbkiecjbjehaoaa.Dp

theorem append_one (D : Dk) (n s : ByteArray) : append D n s = one D n (fun f => if 0 < D.c ∧ D.c < (used D.f : Int) + (s.size : Int) then f else ⟨f.n, f.d ++ s, f.s⟩) (fun _ => if 0 < D.c ∧ D.c < (used D.f : Int) + (s.size : Int) then 9 else 0) := by
  unfold append one
  cases get D.f n with
  | none => rfl
  | some f =>
    by_cases h : 0 < D.c ∧ D.c < (used D.f : Int) + (s.size : Int)
    · simp only [if_pos h]
      exact change_own D _ _ (by decide)
    · simp only [if_neg h]
theorem sync_one (D : Dk) (n : ByteArray) : sync D n = one D n (fun f => ⟨f.n, f.d, f.d.size⟩) (fun _ => 0) := rfl
theorem cut_one (D : Dk) (n : ByteArray) (k : Int) : cut D n k = one D n (fun f => if k < 0 ∨ (f.d.size : Int) < k then f else ⟨f.n, f.d.extract 0 k.toNat, min f.s k⟩) (fun f => if k < 0 ∨ (f.d.size : Int) < k then 6 else 0) := by
  unfold cut one
  cases get D.f n with
  | none => rfl
  | some f =>
    by_cases h : k < 0 ∨ (f.d.size : Int) < k
    · simp only [if_pos h]
      exact change_own D _ _ (by decide)
    · simp only [if_neg h]

/-- What the region at the end of these calls leaves. -/
theorem res_slice {w w' : World} {fv v : Value} {l0 : List Fl} {R : Dk} {fa : Option Addr} {fn fc : Nat} (h : DkRes w fv l0 R v w') (e : fv = .slice fa fn fc) : ∃ a n c, v = .slice a n c := by
  rcases h.k with ⟨k, _⟩ | k
  · exact ⟨_, _, _, k.trans e⟩
  · exact own_slice k

set_option maxRecDepth 100000 in
set_option maxHeartbeats 3200000 in
theorem append_any (fv : Value) (D : Dk) (n s : ByteArray) (w : World) (hv : IsL FL w fv D.f) (hS : Sm D) (hs : s.size ≤ 1000000000) :
    Calls Try.prog 24 #[dkVal fv D, .string n, .string s] w (DkOut w fv D.f (append D n s)) := by
  rw [append_one]
  have HC := Lib.hid fun (fv : Value) (b1 b2 bd bs : Nat) (W : World) (h : IsL FL W fv D.f) (x1 : W.cell? ⟨b1, 0, none⟩ = some (.string n)) (x2 : W.cell? ⟨b2, 0, none⟩ = some (.func (.func 48) #[] #[.pointer (some ⟨bd, 0, none⟩), .pointer (some ⟨bs, 0, none⟩)]))
      (xd : W.heap[bd]? = some (.cells #[fv, .int .i64 D.c, .bool D.a, .int .i64 D.l, .bool D.x] 24 (0, 0))) (xs : W.cell? ⟨bs, 0, none⟩ = some (.string s)) =>
    wchange_any fv D n (fun f => if 0 < D.c ∧ D.c < (used D.f : Int) + (s.size : Int) then f else ⟨f.n, f.d ++ s, f.s⟩) (fun _ => if 0 < D.c ∧ D.c < (used D.f : Int) + (s.size : Int) then 9 else 0) 48 #[.pointer (some ⟨bd, 0, none⟩), .pointer (some ⟨bs, 0, none⟩)] b1 b2 W h hS
      (fun f hf => by
        have hm := get_mem hf
        have hb := hS.flb f hm.1
        have hu := used_mem hm.1
        have := hS.u
        refine ⟨?_, fun h0 => ?_⟩
        · split <;> exact hm.2
        · split at h0
          · omega
          · rename_i hx
            rw [if_neg hx]
            exact ⟨hb.1, by show (f.d ++ s).size ≤ _; rw [ByteArray.size_append]; omega, hb.2.2⟩)
      (enters Try.func48 (by kernel_rfl) (by rfl))
      (fun f W' hf b => by
        have hm := get_mem hf
        have hu := used_mem hm.1
        have hu2 := hS.u
        have hp' := hkeep xd b
        have hs' : W'.cell? ⟨bs, 0, none⟩ = some (.string s) := by rw [b.cell (p := ⟨bs, 0, none⟩) (block_lt_of_cell xs)]; exact xs
        have hv' := h.keep b
        have hc0 := hS.r.2.2.1
        have hc9 := hS.b.1.2
        by_cases hc : D.c = 0
        · rw [if_neg (by omega), if_neg (by omega)]
          exact append1_free f s fv D bd bs W' hp' hs' (by omega) hc
        · by_cases hx : D.c < (used D.f : Int) + (s.size : Int)
          · rw [if_pos ⟨by omega, hx⟩, if_pos ⟨by omega, hx⟩]
            exact append1_full f s fv D bd bs W' hp' hs' hv' (by omega) (by omega) (by omega) hc9 hx
          · rw [if_neg (fun h => hx h.2), if_neg (fun h => hx h.2)]
            exact append1_room f s fv D bd bs W' hp' hs' hv' (by omega) (by omega) (by omega) hc9 (by omega))
      x1 x2
  have WI := Lib.hid fun (W : World) (bd bs : Nat) => within_any n (.func 48) #[.pointer (some ⟨bd, 0, none⟩), .pointer (some ⟨bs, 0, none⟩)] W
  have HV := Lib.hid hv
  obtain ⟨fa, fn, fc, rfl⟩ : ∃ a n c, fv = .slice a n c := by obtain ⟨a, c, h, _⟩ := hv; exact ⟨a, _, c, h⟩
  have hmf := made_func
  obtain ⟨g0, g1, g2, gb, gs⟩ := boxes3 w #[.slice fa fn fc, .int .i64 D.c, .bool D.a, .int .i64 D.l, .bool D.x] #[.string s] #[.slice none 0 0, .int .i64 0, .bool false, .int .i64 0, .bool false] 24 9 24
  have G0 := Lib.hid g0
  have G1 := Lib.hid g1
  have G2 := Lib.hid g2
  have GB := Lib.hid gb
  have GS := Lib.hid gs
  generalize one D n _ _ = R at *
  clear hv hS g0 g1 g2 gb gs hs
  unfold dkVal
  go_enter Try.func24, Try.ntmps24
  go_wp2_with fail
  generalize World.alloc (World.alloc (World.alloc w _) _) _ = w0 at G0 G1 G2 GB GS ⊢
  have HL := Lib.hid (show w.heap.size + 1 + 1 < w0.heap.size by have := GS.out; omega)
  obtain ⟨p0, p1, p2, p3, p4⟩ := cells5 G0.out
  have HLL := HL.out
  have hl0 : w.heap.size < w0.heap.size := by omega
  go_region_with (first | (go_at_call 47; refine (WI.out _ _ _).mono ?_; rintro e w4 ⟨p, q, rfl, hp4, hq4, b4⟩; obtain ⟨z0, z1, z2, z3, z4⟩ := cells5 (hkeep G0.out (bel_trans2 (Below.refl _ _).drew b4))) | (go_at_call 44; refine (HC.out _ _ _ _ _ _ (HV.out.keep (GB.out.trans ((bel_trans2 (Below.refl _ _).drew b4).mono (by omega)))) hp4 hq4 (hkeep G0.out (bel_trans2 (Below.refl _ _).drew b4)) (cells1 (hkeep G1.out (bel_trans2 (Below.refl _ _).drew b4))).1).mono ?_; rintro e w5 ⟨v1, rfl, hres⟩; obtain ⟨ga, gn, gc, rfl⟩ := res_slice hres rfl; have HRS := Lib.hid (res_set5 hres (GB.out.trans ((bel_trans2 (Below.refl _ _).drew b4).mono (by omega))) (k := w.heap.size + 1 + 1) (by omega) (Nat.lt_of_lt_of_le HL.out (bel_trans2 (Below.refl _ _).drew b4).size)); obtain ⟨q0, q1, q2, q3, q4⟩ := cells5 (hkeep G2.out (bel_trans2 (bel_trans2 (Below.refl _ _).drew b4) hres.w)); obtain ⟨qf0, qf1, qf2, qf3, qf4⟩ := frozen5 (hkeep G2.out (bel_trans2 (bel_trans2 (Below.refl _ _).drew b4) hres.w)); clear hres b4; unfold dkVal))
  all_goals
    go_wp2_with fail
    refine bodyPost_ret (v := .tuple #[.agg #[.slice ga gn gc, .int .i64 R.1.c, .bool R.1.a, .int .i64 R.1.l, .bool R.1.x], .int .i64 R.2]) (by simp [results, Try.results24, go_sem, q0, q1, q2, q3, q4]) rfl ?_
    exact ⟨_, rfl, HRS.out _ _ _ _ _⟩

set_option maxRecDepth 100000 in
set_option maxHeartbeats 3200000 in
theorem cut_any (fv : Value) (D : Dk) (n : ByteArray) (k : Int) (w : World) (hv : IsL FL w fv D.f) (hS : Sm D) (hk : k ≤ 9223372036854775807) :
    Calls Try.prog 26 #[dkVal fv D, .string n, .int .i64 k] w (DkOut w fv D.f (cut D n k)) := by
  rw [cut_one]
  have HC := Lib.hid fun (fv : Value) (b1 b2 bs : Nat) (W : World) (h : IsL FL W fv D.f) (x1 : W.cell? ⟨b1, 0, none⟩ = some (.string n)) (x2 : W.cell? ⟨b2, 0, none⟩ = some (.func (.func 50) #[] #[.pointer (some ⟨bs, 0, none⟩)]))
      (xs : W.cell? ⟨bs, 0, none⟩ = some (.int .i64 k)) =>
    wchange_any fv D n (fun f => if k < 0 ∨ (f.d.size : Int) < k then f else ⟨f.n, f.d.extract 0 k.toNat, min f.s k⟩) (fun f => if k < 0 ∨ (f.d.size : Int) < k then 6 else 0) 50 #[.pointer (some ⟨bs, 0, none⟩)] b1 b2 W h hS
      (fun f hf => by
        have hm := get_mem hf
        have hb := hS.flb f hm.1
        have ho := hS.r.1 f hm.1
        have h1 := ho.2.1
        have h2 := hb.2.2.2
        refine ⟨?_, fun h0 => ?_⟩
        · split <;> exact hm.2
        · split at h0
          · omega
          · rename_i hx
            rw [if_neg hx]
            exact ⟨hb.1, by show (f.d.extract 0 k.toNat).size ≤ _; rw [ByteArray.size_extract]; have := hb.2.1; omega, by show _ ≤ min f.s k; omega, by show min f.s k ≤ _; omega⟩)
      (enters Try.func50 (by kernel_rfl) (by rfl))
      (fun f W' hf b => by
        have hm := get_mem hf
        have hb := hS.flb f hm.1
        have hs' : W'.cell? ⟨bs, 0, none⟩ = some (.int .i64 k) := by rw [b.cell (p := ⟨bs, 0, none⟩) (block_lt_of_cell xs)]; exact xs
        by_cases hx : k < 0 ∨ (f.d.size : Int) < k
        · rw [if_pos hx, if_pos hx]
          exact cut1_no f k bs W' hb.2.1 hs' hx
        · rw [if_neg hx, if_neg hx]
          obtain ⟨j, rfl⟩ : ∃ j : Nat, k = (j : Int) := ⟨k.toNat, by omega⟩
          exact cut1_yes f j bs W' hs' (by omega))
      x1 x2
  have WI := Lib.hid fun (W : World) (bs : Nat) => within_any n (.func 50) #[.pointer (some ⟨bs, 0, none⟩)] W
  have HV := Lib.hid hv
  obtain ⟨fa, fn, fc, rfl⟩ : ∃ a n c, fv = .slice a n c := by obtain ⟨a, c, h, _⟩ := hv; exact ⟨a, _, c, h⟩
  have hmf := made_func
  obtain ⟨g0, g1, g2, gb, gs⟩ := boxes3 w #[.slice fa fn fc, .int .i64 D.c, .bool D.a, .int .i64 D.l, .bool D.x] #[.int .i64 k] #[.slice none 0 0, .int .i64 0, .bool false, .int .i64 0, .bool false] 24 3 24
  have G0 := Lib.hid g0
  have G1 := Lib.hid g1
  have G2 := Lib.hid g2
  have GB := Lib.hid gb
  have GS := Lib.hid gs
  generalize one D n _ _ = R at *
  clear hv hS g0 g1 g2 gb gs hk
  unfold dkVal
  go_enter Try.func26, Try.ntmps26
  go_wp2_with fail
  generalize World.alloc (World.alloc (World.alloc w _) _) _ = w0 at G0 G1 G2 GB GS ⊢
  have HL := Lib.hid (show w.heap.size + 1 + 1 < w0.heap.size by have := GS.out; omega)
  obtain ⟨p0, p1, p2, p3, p4⟩ := cells5 G0.out
  have HLL := HL.out
  have hl0 : w.heap.size < w0.heap.size := by omega
  go_region_with (first | (go_at_call 47; refine (WI.out _ _).mono ?_; rintro e w4 ⟨p, q, rfl, hp4, hq4, b4⟩; obtain ⟨z0, z1, z2, z3, z4⟩ := cells5 (hkeep G0.out (bel_trans2 (Below.refl _ _).drew b4))) | (go_at_call 44; refine (HC.out _ _ _ _ _ (HV.out.keep (GB.out.trans ((bel_trans2 (Below.refl _ _).drew b4).mono (by omega)))) hp4 hq4 (cells1 (hkeep G1.out (bel_trans2 (Below.refl _ _).drew b4))).1).mono ?_; rintro e w5 ⟨v1, rfl, hres⟩; obtain ⟨ga, gn, gc, rfl⟩ := res_slice hres rfl; have HRS := Lib.hid (res_set5 hres (GB.out.trans ((bel_trans2 (Below.refl _ _).drew b4).mono (by omega))) (k := w.heap.size + 1 + 1) (by omega) (Nat.lt_of_lt_of_le HL.out (bel_trans2 (Below.refl _ _).drew b4).size)); obtain ⟨q0, q1, q2, q3, q4⟩ := cells5 (hkeep G2.out (bel_trans2 (bel_trans2 (Below.refl _ _).drew b4) hres.w)); obtain ⟨qf0, qf1, qf2, qf3, qf4⟩ := frozen5 (hkeep G2.out (bel_trans2 (bel_trans2 (Below.refl _ _).drew b4) hres.w)); clear hres b4; unfold dkVal))
  all_goals
    go_wp2_with fail
    refine bodyPost_ret (v := .tuple #[.agg #[.slice ga gn gc, .int .i64 R.1.c, .bool R.1.a, .int .i64 R.1.l, .bool R.1.x], .int .i64 R.2]) (by simp [results, Try.results26, go_sem, q0, q1, q2, q3, q4]) rfl ?_
    exact ⟨_, rfl, HRS.out _ _ _ _ _⟩

set_option maxRecDepth 100000 in
set_option maxHeartbeats 3200000 in
theorem sync_any (fv : Value) (D : Dk) (n : ByteArray) (w : World) (hv : IsL FL w fv D.f) (hS : Sm D) :
    Calls Try.prog 25 #[dkVal fv D, .string n] w (DkOut w fv D.f (sync D n)) := by
  rw [sync_one]
  have HC := Lib.hid fun (fv : Value) (b1 b2 : Nat) (W : World) (h : IsL FL W fv D.f) (x1 : W.cell? ⟨b1, 0, none⟩ = some (.string n)) (x2 : W.cell? ⟨b2, 0, none⟩ = some (.func (.func 49) #[] #[])) =>
    wchange_any fv D n (fun f => ⟨f.n, f.d, f.d.size⟩) (fun _ => 0) 49 #[] b1 b2 W h hS
      (fun f hf => by
        have hb := hS.flb f (get_mem hf).1
        exact ⟨(get_mem hf).2, fun _ => ⟨hb.1, hb.2.1, by show _ ≤ (f.d.size : Int); omega, by show (f.d.size : Int) ≤ _; have := hb.2.1; omega⟩⟩)
      (enters Try.func49 (by kernel_rfl) (by rfl))
      (fun f W' hf b => allSure_any f W') x1 x2
  have WI := Lib.hid fun (W : World) => within_any n (.func 49) #[] W
  have HV := Lib.hid hv
  obtain ⟨fa, fn, fc, rfl⟩ : ∃ a n c, fv = .slice a n c := by obtain ⟨a, c, h, _⟩ := hv; exact ⟨a, _, c, h⟩
  have hmf := made_func
  obtain ⟨g0, g1, gb, gs⟩ := boxes2 w #[.slice fa fn fc, .int .i64 D.c, .bool D.a, .int .i64 D.l, .bool D.x] #[.slice none 0 0, .int .i64 0, .bool false, .int .i64 0, .bool false] 24 24
  have G0 := Lib.hid g0
  have G1 := Lib.hid g1
  have GB := Lib.hid gb
  have GS := Lib.hid gs
  generalize one D n _ _ = R at *
  clear hv hS g0 g1 gb gs
  unfold dkVal
  go_enter Try.func25, Try.ntmps25
  go_wp2_with fail
  generalize World.alloc (World.alloc w _) _ = w0 at G0 G1 GB GS ⊢
  have HL := Lib.hid (show w.heap.size + 1 < w0.heap.size by have := GS.out; omega)
  obtain ⟨p0, p1, p2, p3, p4⟩ := cells5 G0.out
  have HLL := HL.out
  have hl0 : w.heap.size < w0.heap.size := by omega
  go_region_with (first | (go_at_call 47; refine (WI.out _).mono ?_; rintro e w4 ⟨p, q, rfl, hp4, hq4, b4⟩; obtain ⟨z0, z1, z2, z3, z4⟩ := cells5 (hkeep G0.out (bel_trans2 (Below.refl _ _).drew b4))) | (go_at_call 44; refine (HC.out _ _ _ _ (HV.out.keep (GB.out.trans ((bel_trans2 (Below.refl _ _).drew b4).mono (by omega)))) hp4 hq4).mono ?_; rintro e w5 ⟨v1, rfl, hres⟩; obtain ⟨ga, gn, gc, rfl⟩ := res_slice hres rfl; have HRS := Lib.hid (res_set5 hres (GB.out.trans ((bel_trans2 (Below.refl _ _).drew b4).mono (by omega))) (k := w.heap.size + 1) (by omega) (Nat.lt_of_lt_of_le HL.out (bel_trans2 (Below.refl _ _).drew b4).size)); obtain ⟨q0, q1, q2, q3, q4⟩ := cells5 (hkeep G1.out (bel_trans2 (bel_trans2 (Below.refl _ _).drew b4) hres.w)); obtain ⟨qf0, qf1, qf2, qf3, qf4⟩ := frozen5 (hkeep G1.out (bel_trans2 (bel_trans2 (Below.refl _ _).drew b4) hres.w)); clear hres b4; unfold dkVal))
  all_goals
    go_wp2_with fail
    refine bodyPost_ret (v := .tuple #[.agg #[.slice ga gn gc, .int .i64 R.1.c, .bool R.1.a, .int .i64 R.1.l, .bool R.1.x], .int .i64 R.2]) (by simp [results, Try.results25, go_sem, q0, q1, q2, q3, q4]) rfl ?_
    exact ⟨_, rfl, HRS.out _ _ _ _ _⟩

end Go.Proofs.Ytbkiecjbjehaoaa.Dsk
