/-
  Parts of what the laws of this seat stand on: RecRef, StoApp, StoGood, RecGet, RecGetC.
-/
import Derived.Lib.Builder
import Derived.Test.YthhhocgpoenigaaGreatBu12
import Derived.Test.YthhhocgpoenigaaGreatBu18
import Derived.Test.YthhhocgpoenigaaGreatBu19
namespace Go.Proofs.YthhhocgpoenigaaGreat
open Go.RowKit

set_option maxRecDepth 100000 in
set_option maxHeartbeats 800000 in
theorem why_any (r : Rp.Rec) (w : World) (hd : r.d.size ≤ 9223372036854775807) :
    Calls Tryz.prog 110 #[recVal r] w fun e w' => e = .returned (.int .i64 (Rp.fault r)) ∧ Below w.heap.size w w' := by
  have C1 := Lib.hid fun W : World => rwithin_any r.a W
  have C2 := Lib.hid fun W : World => rwithin_any r.t W
  have F1 := Lib.hid (@Rp.fault_a r)
  have F2 := Lib.hid (@Rp.fault_t r)
  have F3 := Lib.hid (@Rp.fault_d r)
  have F4 := Lib.hid (@Rp.fault_ok r)
  unfold recVal
  rcases h1 : Rp.inB r.a with _ | _
  · rw [h1] at C1
    have HF := Lib.hid (F1.out h1)
    clear h1
    go_enter Tryz.func110, Tryz.ntmps110
    go_wp2_with fail
    refine (C1.out _).mono ?_
    rintro e w' ⟨rfl, rfl⟩
    go_wp2_with fail
    go_ret
    exact ⟨by rw [HF.out]; rfl, (Below.refl _ _).alloc (Nat.le_refl _) _⟩
  have H1 := Lib.hid h1
  rw [h1] at C1
  clear h1
  rcases h2 : Rp.inB r.t with _ | _
  · rw [h2] at C2
    have HF := Lib.hid (F2.out h2)
    clear h2
    go_enter Tryz.func110, Tryz.ntmps110
    go_wp2_with fail
    refine (C1.out _).mono ?_
    rintro e w' ⟨rfl, rfl⟩
    go_wp2_with fail
    refine (C2.out _).mono ?_
    rintro e w' ⟨rfl, rfl⟩
    go_wp2_with fail
    go_ret
    exact ⟨by rw [HF.out]; rfl, (Below.refl _ _).alloc (Nat.le_refl _) _⟩
  have H2 := Lib.hid h2
  rw [h2] at C2
  clear h2
  by_cases h3 : 64 < (r.d.size : Int)
  · have HF := Lib.hid (F3.out H1.out H2.out (by omega))
    go_enter Tryz.func110, Tryz.ntmps110
    go_wp2_with fail
    refine (C1.out _).mono ?_
    rintro e w' ⟨rfl, rfl⟩
    go_wp2_with fail
    refine (C2.out _).mono ?_
    rintro e w' ⟨rfl, rfl⟩
    go_wp2_with fail
    go_ret
    exact ⟨by rw [HF.out]; rfl, (Below.refl _ _).alloc (Nat.le_refl _) _⟩
  · have HF := Lib.hid (F4.out H1.out H2.out (by omega))
    go_enter Tryz.func110, Tryz.ntmps110
    go_wp2_with fail
    refine (C1.out _).mono ?_
    rintro e w' ⟨rfl, rfl⟩
    go_wp2_with fail
    refine (C2.out _).mono ?_
    rintro e w' ⟨rfl, rfl⟩
    go_wp2_with fail
    go_ret
    exact ⟨by rw [HF.out]; rfl, (Below.refl _ _).alloc (Nat.le_refl _) _⟩

theorem okB_six {r : Rp.Rec} (h : Rp.fault r = 6) : okB r = false := okB_no (by omega)
theorem okB_five {r : Rp.Rec} (h : Rp.fault r = 5) : okB r = false := okB_no (by omega)

set_option maxRecDepth 100000 in
set_option maxHeartbeats 800000 in
theorem rright_any (r : Rp.Rec) (w : World) (hd : r.d.size ≤ 9223372036854775807) :
    Calls Tryz.prog 79 #[recVal r] w fun e w' => e = .returned (.bool (okB r)) ∧ Below w.heap.size w w' := by
  have C1 := Lib.hid fun W : World => rwithin_any r.a W
  have C2 := Lib.hid fun W : World => rwithin_any r.t W
  have F1 := Lib.hid (@Rp.fault_a r)
  have F2 := Lib.hid (@Rp.fault_t r)
  have F3 := Lib.hid (@Rp.fault_d r)
  have F4 := Lib.hid (@Rp.fault_ok r)
  unfold recVal
  rcases h1 : Rp.inB r.a with _ | _
  · rw [h1] at C1
    rw [okB_six (F1.out h1)]
    clear h1
    go_enter Tryz.func79, Tryz.ntmps79
    go_wp2_with fail
    refine (C1.out _).mono ?_
    rintro e w' ⟨rfl, rfl⟩
    go_wp2_with fail
    go_ret
    exact ⟨rfl, (Below.refl _ _).alloc (Nat.le_refl _) _⟩
  have H1 := Lib.hid h1
  rw [h1] at C1
  clear h1
  rcases h2 : Rp.inB r.t with _ | _
  · rw [h2] at C2
    rw [okB_six (F2.out h2)]
    clear h2
    go_enter Tryz.func79, Tryz.ntmps79
    go_wp2_with fail
    refine (C1.out _).mono ?_
    rintro e w' ⟨rfl, rfl⟩
    go_wp2_with fail
    refine (C2.out _).mono ?_
    rintro e w' ⟨rfl, rfl⟩
    go_wp2_with fail
    go_ret
    exact ⟨rfl, (Below.refl _ _).alloc (Nat.le_refl _) _⟩
  have H2 := Lib.hid h2
  rw [h2] at C2
  clear h2
  by_cases h3 : (r.d.size : Int) ≤ 64
  · rw [okB_yes (F4.out H1.out H2.out (by omega))]
    go_enter Tryz.func79, Tryz.ntmps79
    go_wp2_with fail
    refine (C1.out _).mono ?_
    rintro e w' ⟨rfl, rfl⟩
    go_wp2_with fail
    refine (C2.out _).mono ?_
    rintro e w' ⟨rfl, rfl⟩
    go_wp2_with fail
    go_ret
    exact ⟨rfl, (Below.refl _ _).alloc (Nat.le_refl _) _⟩
  · rw [okB_five (F3.out H1.out H2.out (by omega))]
    have h4 : decide ((r.d.size : Int) ≤ 64) = false := by simp; omega
    clear h3
    go_enter Tryz.func79, Tryz.ntmps79
    go_wp2_with fail
    refine (C1.out _).mono ?_
    rintro e w' ⟨rfl, rfl⟩
    go_wp2_with fail
    refine (C2.out _).mono ?_
    rintro e w' ⟨rfl, rfl⟩
    go_wp2_with fail
    go_ret
    exact ⟨rfl, (Below.refl _ _).alloc (Nat.le_refl _) _⟩

set_option maxRecDepth 100000 in
set_option maxHeartbeats 1600000 in
theorem rbody_any (r : Rp.Rec) (w : World) (h : Rp.Ok r) :
    Calls Tryz.prog 111 #[recVal r] w fun e w' => e = .returned (.string (⟨(putI r.a).toArray⟩ ++ ⟨(putI r.t).toArray⟩ ++ r.d)) ∧ Below w.heap.size w w' := by
  have l1 : (putI r.a).length ≤ 9 := putI_len_le _
  have l2 : (putI r.t).length ≤ 9 := putI_len_le _
  have l3 : r.d.size ≤ 64 := h.2.2.2.2
  have a0 := h.1
  have a1 := h.2.1
  have t0 := h.2.2.1
  have t1 := h.2.2.2.1
  have s1 : ¬ 9223372036854775807 < (putI r.a).length + (putI r.t).length := by omega
  have s2 : ¬ 9223372036854775807 < (putI r.a).length + (putI r.t).length + r.d.size := by omega
  clear h
  unfold recVal
  go_enter Tryz.func111, Tryz.ntmps111
  go_wp2_with fail
  have hbox := box_new w (.int .i64 r.a) (.int .i64 r.t) (.string r.d) 57
  go_region_held3 (fun w' => w'.cell? ⟨w.heap.size, 0, none⟩ = some (.int .i64 r.a) ∧ w'.cell? ⟨w.heap.size, 1, none⟩ = some (.int .i64 r.t) ∧ w'.cell? ⟨w.heap.size, 2, none⟩ = some (.string r.d) ∧ Below w.heap.size w w')
    (first | assumption | exact box_keep (by assumption) (Below.refl _ _).drew | exact box_keep (by assumption) (by assumption))
    ((go_at_call 93; refine (rput_any _ _ (by omega) (by omega)).mono ?_; rintro e w4 ⟨rfl, b4⟩))
  go_wp2_with fail
  go_ret
  obtain ⟨_, _, _, hb⟩ := ‹_ ∧ _ ∧ _ ∧ Below w.heap.size w w4›
  exact ⟨rfl, hb⟩

set_option maxRecDepth 100000 in
set_option maxHeartbeats 1600000 in
theorem rrecput_yes (r : Rp.Rec) (w : World) (h : Rp.Ok r) :
    Calls Tryz.prog 63 #[recVal r] w fun e w' => e = .returned (putVal r) ∧ Below w.heap.size w w' := by
  have hf := Rp.fault_zero h
  have C := fun W : World => why_any r W (by have := h.2.2.2.2; omega)
  rw [hf] at C
  have C := Lib.hid C
  have HV := Lib.hid (putVal_yes hf)
  have hb : (⟨(putI r.a).toArray⟩ ++ ⟨(putI r.t).toArray⟩ ++ r.d : ByteArray).data.toList = Rp.body r := by rw [body_str, putI_pos h.1, putI_pos h.2.2.1]; rfl
  have hs : (⟨(putI r.a).toArray⟩ ++ ⟨(putI r.t).toArray⟩ ++ r.d : ByteArray).size = (Rp.body r).length := by rw [← hb]; rfl
  have F := fun W : World => rfput_yes (⟨(putI r.a).toArray⟩ ++ ⟨(putI r.t).toArray⟩ ++ r.d) W (by rw [hs]; exact Rp.body_may h)
  rw [hb] at F
  have D := fun W : World => rbody_any r W h
  generalize (⟨(putI r.a).toArray⟩ ++ ⟨(putI r.t).toArray⟩ ++ r.d : ByteArray) = B at *
  have F := Lib.hid F
  have D := Lib.hid D
  clear hb hs hf h
  unfold recVal at C D ⊢
  go_enter Tryz.func63, Tryz.ntmps63
  go_wp2_with fail
  refine (C.out _).mono ?_
  rintro e w1 ⟨rfl, b1⟩
  obtain ⟨x0, x1, x2, hb⟩ := box_keep (box_new w _ _ _ _) b1
  go_wp2_with fail
  refine (D.out _).mono ?_
  rintro e w2 ⟨rfl, b2⟩
  go_wp2_with fail
  refine (F.out _).mono ?_
  rintro e w3 ⟨rfl, b3⟩
  go_wp2_with fail
  go_ret2
  exact ⟨by rw [HV.out]; rfl, bel_trans2 (bel_trans2 hb b2) b3⟩

set_option maxRecDepth 100000 in
set_option maxHeartbeats 800000 in
theorem rrecput_no (r : Rp.Rec) (w : World) (hd : r.d.size ≤ 9223372036854775807) (h : ¬ Rp.Ok r) :
    Calls Tryz.prog 63 #[recVal r] w fun e w' => e = .returned (putVal r) ∧ Below w.heap.size w w' := by
  have C := fun W : World => why_any r W hd
  rcases putVal_cases r with ⟨hok, _⟩ | ⟨_, e0, he, hf, hv⟩
  · exact absurd hok h
  rw [hf] at C
  have C := Lib.hid C
  have HV := Lib.hid hv
  clear hv hf h hd
  unfold recVal at C ⊢
  rcases he with rfl | rfl
  all_goals
    go_enter Tryz.func63, Tryz.ntmps63
    go_wp2_with fail
    refine (C.out _).mono ?_
    rintro e w1 ⟨rfl, b1⟩
    go_wp2_with fail
    go_ret2
    exact ⟨by rw [HV.out]; rfl, bel_of_alloc b1⟩

/-- The document's Put, at any record. -/
theorem rrecput_any (r : Rp.Rec) (w : World) (hd : r.d.size ≤ 9223372036854775807) :
    Calls Tryz.prog 63 #[recVal r] w fun e w' => e = .returned (putVal r) ∧ Below w.heap.size w w' := by
  by_cases h : Rp.Ok r
  · exact rrecput_yes r w h
  · exact rrecput_no r w hd h

set_option maxRecDepth 100000 in
set_option maxHeartbeats 800000 in
theorem rrecsize_any (r : Rp.Rec) (w : World) (hd : r.d.size ≤ 9223372036854775807) :
    Calls Tryz.prog 30 #[recVal r] w fun e w' => e = .returned (.int .i64 ((Rp.putB r).length : Int)) ∧ Below w.heap.size w w' := by
  have C := fun W : World => rrecput_any r W hd
  have hl := Rp.putB_le r
  unfold putVal at C
  generalize Rp.putB r = B at C hl ⊢
  generalize Rp.fault r = f at C
  have C := Lib.hid C
  unfold recVal at C ⊢
  go_enter Tryz.func30, Tryz.ntmps30
  go_wp2_with fail
  refine (C.out _).mono ?_
  rintro e w1 ⟨rfl, b1⟩
  go_wp2_with fail
  go_ret
  exact ⟨rfl, bel_of_alloc b1⟩

end Go.Proofs.YthhhocgpoenigaaGreat

namespace Go.Proofs.YthhhocgpoenigaaGreat.Sto
open Go.RowKit Go.Proofs.YthhhocgpoenigaaGreat.So Go.Proofs.YthhhocgpoenigaaGreat.Dsk Go.Proofs.YthhhocgpoenigaaGreat.Rts

/-- What a roll leaves. -/
theorem roll_facts {S : St} {k : Nat} (hn : S.g ≠ []) (hB : Stb S) (hS : Bd S.d k) (hk : k ≤ 70000) (hver : S.v < 1152921504606846976) :
    Bd (roll S).1.d (k + 8) ∧ Stb (roll S).1 ∧ (roll S).1.g ≠ [] ∧ (roll S).1.x = S.x := by
  have stb : ∀ T : St, Bd T.d (k + 8) → 0 ≤ T.v → T.v ≤ S.v + 1 → T.g.length ≤ 1000 → (∀ g ∈ T.g, g ∈ S.g ∨ g = ⟨S.x, 0, 0⟩) → T.x = S.x → (T.s = S.x ∨ T.s = S.s) → T.z = S.z → T.c = S.c → Stb T := fun T h1 h2 h3 h4 h5 h6 h7 h8 h9 => by
    have h0 := hB.x
    refine ⟨bd_sm3 h1 (by omega), ⟨h2, by omega⟩, h4, fun g hg => ?_, by rw [h6]; exact hB.x, ?_, by rw [h8]; exact hB.z, by rw [h9]; exact hB.c⟩
    · rcases h5 g hg with h | h
      · exact hB.g g h
      · subst h
        exact ⟨hB.x, ⟨by show (0 : Int) ≤ 0; omega, by show (0 : Int) ≤ 1152921504606846976; omega⟩, ⟨by show (0 : Int) ≤ 0; omega, by show (0 : Int) ≤ 1152921504606846976; omega⟩⟩
    · rcases h7 with h | h
      · rw [h]; exact hB.x
      · rw [h]; exact hB.s
  have hv := hB.v
  by_cases h64 : 64 ≤ S.g.length
  · rw [roll_full h64]
    exact ⟨hS.mono (by omega), hB, hn, rfl⟩
  obtain ⟨⟨T, E0⟩, hT⟩ : ∃ R, syncT S = R := ⟨_, rfl⟩
  obtain ⟨t1, t2, t3, t4, t5, t6, t7⟩ := syncT_facts S hS hT
  have same : ∀ D : Dp.Dk, Bd D (k + 8) → Bd ({ T with d := D } : St).d (k + 8) ∧ Stb { T with d := D } ∧ ({ T with d := D } : St).g ≠ [] ∧ ({ T with d := D } : St).x = S.x := fun D hD =>
    ⟨hD, stb _ hD (by show 0 ≤ T.v; omega) (by show T.v ≤ _; omega) (by show T.g.length ≤ _; rw [t2]; exact hB.n) (fun g hg => .inl (by rw [← t2]; exact hg)) t3 t7 t5 t6, by show T.g ≠ []; rw [t2]; exact hn, t3⟩
  by_cases hz : E0 = 0
  case neg =>
    rw [roll_sync h64 hT hz]
    exact same T.d (t1.mono (by omega))
  subst hz
  obtain ⟨⟨C1, E1⟩, hC⟩ : ∃ R, Dp.create T.d (segN T.x) = R := ⟨_, rfl⟩
  have b1 := bd_create t1 (segN T.x)
  rw [hC] at b1
  dsimp only at b1
  by_cases hz : E1 = 0
  case neg =>
    rw [roll_create h64 hT hC hz]
    exact same C1 (b1.mono (by omega))
  subst hz
  obtain ⟨⟨W1, E2⟩, hW⟩ : ∃ R, swap C1 (man (more T C1)) = R := ⟨_, rfl⟩
  have b2 := bd_swap b1 (man (more T C1))
  rw [hW] at b2
  dsimp only at b2
  by_cases h9 : E2 = 9
  · subst h9
    obtain ⟨⟨X1, E3⟩, hX⟩ : ∃ R, Dp.delete W1 (segN T.x) = R := ⟨_, rfl⟩
    have b3 := bd_delete b2 (segN T.x)
    rw [hX] at b3
    dsimp only at b3
    rw [roll_nine h64 hT hC hW hX]
    exact same X1 (b3.mono (by omega))
  by_cases hz : E2 = 0
  case neg =>
    rw [roll_err h64 hT hC hW h9 hz]
    exact same W1 (b2.mono (by omega))
  subst hz
  rw [roll_ok h64 hT hC hW]
  refine ⟨b2.mono (by omega), stb _ (b2.mono (by omega)) (by show 0 ≤ T.v + 1; omega) (by show T.v + 1 ≤ _; omega) ?_ ?_ t3 t7 t5 t6, ?_, t3⟩
  · show (T.g ++ [_]).length ≤ 1000
    rw [List.length_append, t2]; simp; omega
  · intro g hg
    rcases List.mem_append.1 (show g ∈ T.g ++ [⟨T.x, 0, 0⟩] from hg) with hg | hg
    · exact .inl (by rw [← t2]; exact hg)
    · rw [List.mem_singleton] at hg
      rw [t3] at hg
      exact .inr hg
  · show T.g ++ [_] ≠ []
    simp

end Go.Proofs.YthhhocgpoenigaaGreat.Sto

namespace Go.Proofs.YthhhocgpoenigaaGreat.Sto
open Go.RowKit Go.Proofs.YthhhocgpoenigaaGreat.So Go.Proofs.YthhhocgpoenigaaGreat.Dsk Go.Proofs.YthhhocgpoenigaaGreat.Rts

/-- An act: its kind, a number, data. -/
structure Ac where
  k : Int
  n : Int
  d : ByteArray
def azero : Ac := ⟨0, 0, ⟨#[]⟩⟩
/-- The record of an act. -/
def recA (S : St) (a : Ac) : Rp.Rec := ⟨S.x + a.n.tmod 3, 7, a.d⟩
/-- An act on a store. -/
noncomputable def doA (q : Int) (S : St) (a : Ac) : St × Int :=
  if a.k = 1 then syncT S else if a.k = 2 then ({ S with d := Dp.arm S.d a.n }, 0) else if a.k = 3 then ({ S with d := Dp.limit S.d a.n }, 0) else append S q (recA S a)
theorem doA_sync {q : Int} {S : St} {a : Ac} (h : a.k = 1) : doA q S a = syncT S := by unfold doA; rw [if_pos h]
theorem doA_arm {q : Int} {S : St} {a : Ac} (h : a.k = 2) : doA q S a = ({ S with d := Dp.arm S.d a.n }, 0) := by unfold doA; rw [if_neg (by omega), if_pos h]
theorem doA_limit {q : Int} {S : St} {a : Ac} (h : a.k = 3) : doA q S a = ({ S with d := Dp.limit S.d a.n }, 0) := by unfold doA; rw [if_neg (by omega), if_neg (by omega), if_pos h]
theorem doA_app {q : Int} {S : St} {a : Ac} (h1 : a.k ≠ 1) (h2 : a.k ≠ 2) (h3 : a.k ≠ 3) : doA q S a = append S q (recA S a) := by unfold doA; rw [if_neg h1, if_neg h2, if_neg h3]

/-- What a roll leaves. -/
structure RollF (S T : St) (k : Nat) : Prop where
  d : Bd T.d k
  v0 : S.v ≤ T.v
  v1 : T.v ≤ S.v + 1
  n : T.g.length ≤ S.g.length + 1
  g : ∀ g ∈ T.g, g ∈ S.g ∨ g = ⟨S.x, 0, 0⟩
  x : T.x = S.x
  s : T.s = S.x ∨ T.s = S.s
  z : T.z = S.z
  c : T.c = S.c
  ne : T.g ≠ []
theorem roll_raw {S : St} {k : Nat} (hn : S.g ≠ []) (hS : Bd S.d k) : RollF S (roll S).1 (k + 8) := by
  by_cases h64 : 64 ≤ S.g.length
  · rw [roll_full h64]
    exact ⟨hS.mono (by omega), Int.le_refl _, by show S.v ≤ S.v + 1; omega, by show S.g.length ≤ _; omega, fun g hg => .inl hg, rfl, .inr rfl, rfl, rfl, hn⟩
  obtain ⟨⟨T, E0⟩, hT⟩ : ∃ R, syncT S = R := ⟨_, rfl⟩
  obtain ⟨t1, t2, t3, t4, t5, t6, t7⟩ := syncT_facts S hS hT
  have same : ∀ D : Dp.Dk, Bd D (k + 8) → RollF S { T with d := D } (k + 8) := fun D hD =>
    ⟨hD, by show S.v ≤ T.v; omega, by show T.v ≤ _; omega, by show T.g.length ≤ _; rw [t2]; omega, fun g hg => .inl (by rw [← t2]; exact hg), t3, t7, t5, t6, by show T.g ≠ []; rw [t2]; exact hn⟩
  by_cases hz : E0 = 0
  case neg =>
    rw [roll_sync h64 hT hz]
    exact same T.d (t1.mono (by omega))
  subst hz
  obtain ⟨⟨C1, E1⟩, hC⟩ : ∃ R, Dp.create T.d (segN T.x) = R := ⟨_, rfl⟩
  have b1 := bd_create t1 (segN T.x)
  rw [hC] at b1
  dsimp only at b1
  by_cases hz : E1 = 0
  case neg =>
    rw [roll_create h64 hT hC hz]
    exact same C1 (b1.mono (by omega))
  subst hz
  obtain ⟨⟨W1, E2⟩, hW⟩ : ∃ R, swap C1 (man (more T C1)) = R := ⟨_, rfl⟩
  have b2 := bd_swap b1 (man (more T C1))
  rw [hW] at b2
  dsimp only at b2
  by_cases h9 : E2 = 9
  · subst h9
    obtain ⟨⟨X1, E3⟩, hX⟩ : ∃ R, Dp.delete W1 (segN T.x) = R := ⟨_, rfl⟩
    have b3 := bd_delete b2 (segN T.x)
    rw [hX] at b3
    dsimp only at b3
    rw [roll_nine h64 hT hC hW hX]
    exact same X1 (b3.mono (by omega))
  by_cases hz : E2 = 0
  case neg =>
    rw [roll_err h64 hT hC hW h9 hz]
    exact same W1 (b2.mono (by omega))
  subst hz
  rw [roll_ok h64 hT hC hW]
  refine ⟨b2.mono (by omega), by show S.v ≤ T.v + 1; omega, by show T.v + 1 ≤ _; omega, ?_, ?_, t3, t7, t5, t6, ?_⟩
  · show (T.g ++ [_]).length ≤ _
    rw [List.length_append, t2]; simp
  · intro g hg
    rcases List.mem_append.1 (show g ∈ T.g ++ [⟨T.x, 0, 0⟩] from hg) with hg | hg
    · exact .inl (by rw [← t2]; exact hg)
    · rw [List.mem_singleton] at hg
      rw [t3] at hg
      exact .inr hg
  · show T.g ++ [_] ≠ []
    simp

/-- A store behind k acts. -/
structure Gd (S : St) (k : Nat) : Prop where
  d : Bd S.d (10 * k)
  v : 0 ≤ S.v ∧ S.v ≤ k
  n : S.g.length ≤ k
  ne : S.g ≠ []
  g : ∀ g ∈ S.g, (0 ≤ g.b ∧ g.b ≤ k) ∧ (0 ≤ g.n ∧ g.n ≤ k) ∧ (0 ≤ g.z ∧ g.z ≤ 100 * k)
  x : 0 ≤ S.x ∧ S.x ≤ k
  s : 0 ≤ S.s ∧ S.s ≤ k
  z : S.z = 0
  c : S.c = 0
theorem Gd.mono {S : St} {k j : Nat} (h : Gd S k) (hj : k ≤ j) : Gd S j :=
  ⟨h.d.mono (by omega), ⟨h.v.1, by have := h.v; omega⟩, by have := h.n; omega, h.ne, fun g hg => by obtain ⟨⟨a, b⟩, ⟨c, d⟩, e, f⟩ := h.g g hg; exact ⟨⟨a, by omega⟩, ⟨c, by omega⟩, e, by omega⟩, ⟨h.x.1, by have := h.x; omega⟩, ⟨h.s.1, by have := h.s; omega⟩, h.z, h.c⟩
theorem Gd.stb {S : St} {k : Nat} (h : Gd S k) (hk : k ≤ 900) : Stb S :=
  ⟨bd_sm3 h.d (by omega), ⟨h.v.1, by have := h.v; omega⟩, by have := h.n; omega, fun g hg => by obtain ⟨⟨a, b⟩, ⟨c, d⟩, e, f⟩ := h.g g hg; exact ⟨⟨a, by omega⟩, ⟨c, by omega⟩, e, by omega⟩, ⟨h.x.1, by have := h.x; omega⟩, ⟨h.s.1, by have := h.s; omega⟩, by rw [h.z]; exact ⟨Int.le_refl _, by decide⟩, by rw [h.c]; exact ⟨Int.le_refl _, by decide⟩⟩
theorem last_mem {S : St} (hn : S.g ≠ []) : lastG S ∈ S.g := by
  have hp : 0 < S.g.length := List.length_pos_iff.2 hn
  unfold lastG
  rw [getD_lt (by omega)]
  exact List.getElem_mem _
/-- A record put into the last segment. -/
theorem put_gd {S : St} {k j : Nat} (hd : Bd S.d j) (hj : j + 1 ≤ 10 * (k + 1)) (h : ∀ D, Bd D (10 * (k + 1)) → Gd { S with d := D } (k + 1)) (hx : S.x + 1 ≤ ((k + 1 : Nat) : Int)) (hl : (lastG S).n + 1 ≤ ((k + 1 : Nat) : Int) ∧ (lastG S).z + 100 ≤ 100 * ((k + 1 : Nat) : Int)) (r : Rp.Rec) : Gd (put S r).1 (k + 1) := by
  have h1 := h _ ((bd_append hd (segN (lastG S).b) (s := ⟨(Rp.putB r).toArray⟩) (by rw [size_mk_list]; have := Rp.putB_le r; omega)).mono (by omega))
  have hm := h1.g (lastG S) (last_mem (S := S) h1.ne)
  have hp := Rp.putB_le r
  unfold put
  dsimp only
  split
  · exact h1
  · refine ⟨h1.d, h1.v, by show (grown S.g _).length ≤ _; unfold grown; rw [List.length_set]; exact h1.n, ?_, fun g hg => ?_, ⟨by have := h1.x.1; show 0 ≤ S.x + 1; have e : (0 : Int) ≤ S.x := this; omega, hx⟩, h1.s, h1.z, h1.c⟩
    · show grown S.g _ ≠ []
      unfold grown
      intro e
      have e2 := congrArg List.length e
      rw [List.length_set] at e2
      have this : S.g.length = 0 := e2
      exact h1.ne (List.length_eq_zero_iff.1 this)
    · have hc : g ∈ S.g ∨ g = ⟨(lastG S).b, (lastG S).n + 1, (lastG S).z + ((Rp.putB r).length : Int)⟩ := List.mem_or_eq_of_mem_set (show g ∈ grown S.g (Rp.putB r).length from hg)
      rcases hc with hc | hc
      · exact h1.g g hc
      · subst hc
        exact ⟨hm.1, ⟨by show 0 ≤ (lastG S).n + 1; omega, hl.1⟩, by show 0 ≤ (lastG S).z + ((Rp.putB r).length : Int); omega, by show (lastG S).z + ((Rp.putB r).length : Int) ≤ 100 * ((k + 1 : Nat) : Int); omega⟩
theorem Gd.app {S : St} {k : Nat} (h : Gd S k) (q : Int) (r0 : Rp.Rec) : Gd (append S q r0).1 (k + 1) := by
  have hd : ∀ D, Bd D (10 * (k + 1)) → Gd { S with d := D } (k + 1) := fun D hD =>
    have m := h.mono (Nat.le_succ k)
    ⟨hD, m.v, m.n, m.ne, m.g, m.x, m.s, m.z, m.c⟩
  unfold append
  split
  · exact h.mono (Nat.le_succ k)
  split
  · exact h.mono (Nat.le_succ k)
  split
  · have r := roll_raw h.ne h.d
    have hx := h.x
    have hv := h.v
    have hs := h.s
    have hn := h.n
    have rg : ∀ g ∈ (roll S).1.g, (0 ≤ g.b ∧ g.b ≤ k) ∧ (0 ≤ g.n ∧ g.n ≤ k) ∧ (0 ≤ g.z ∧ g.z ≤ 100 * (k : Int)) := fun g hg => by
      rcases r.g g hg with e | e
      · exact h.g g e
      · subst e
        exact ⟨hx, ⟨Int.le_refl _, by show (0 : Int) ≤ k; omega⟩, Int.le_refl _, by show (0 : Int) ≤ 100 * (k : Int); omega⟩
    have rd : ∀ D, Bd D (10 * (k + 1)) → Gd { (roll S).1 with d := D } (k + 1) := fun D hD =>
      ⟨hD, ⟨by have := r.v0; show 0 ≤ (roll S).1.v; omega, by have := r.v1; show (roll S).1.v ≤ _; omega⟩, by have := r.n; show (roll S).1.g.length ≤ _; omega, r.ne, fun g hg => by obtain ⟨⟨a, b⟩, ⟨c, d⟩, e, f⟩ := rg g hg; exact ⟨⟨a, by omega⟩, ⟨c, by omega⟩, e, by omega⟩, by show 0 ≤ (roll S).1.x ∧ _ ≤ _; rw [r.x]; omega, by show 0 ≤ (roll S).1.s ∧ _ ≤ _; rcases r.s with e | e <;> rw [e] <;> omega, r.z.trans h.z, r.c.trans h.c⟩
    split
    · exact rd _ (r.d.mono (by omega))
    · have hl := rg (lastG (roll S).1) (last_mem r.ne)
      exact put_gd r.d (by omega) rd (by rw [r.x]; omega) ⟨by omega, by omega⟩ _
  · have hl := h.g (lastG S) (last_mem h.ne)
    have hx := h.x
    exact put_gd h.d (by omega) hd (by omega) ⟨by omega, by omega⟩ _
theorem Gd.act {S : St} {k : Nat} (h : Gd S k) (q : Int) (a : Ac) (ha : a.n ≤ 9223372036854775807) : Gd (doA q S a).1 (k + 1) := by
  have hd : ∀ D, Bd D (10 * (k + 1)) → Gd { S with d := D } (k + 1) := fun D hD =>
    have m := h.mono (Nat.le_succ k)
    ⟨hD, m.v, m.n, m.ne, m.g, m.x, m.s, m.z, m.c⟩
  by_cases h1 : a.k = 1
  · rw [doA_sync h1]
    have m := hd _ ((bd_sync h.d (segN (lastG S).b)).mono (by omega))
    unfold syncT
    refine ⟨m.d, m.v, m.n, m.ne, m.g, m.x, ?_, m.z, m.c⟩
    dsimp only
    split
    · exact m.x
    · exact m.s
  by_cases h2 : a.k = 2
  · rw [doA_arm h2]
    have := bd_step3 h.d (a := ⟨6, a.n, ⟨#[]⟩, ⟨#[]⟩, []⟩) ha (by show (0 : Nat) ≤ 3000; omega)
    rw [act6] at this
    exact hd _ (this.mono (by omega))
  by_cases h3 : a.k = 3
  · rw [doA_limit h3]
    have := bd_step3 h.d (a := ⟨7, a.n, ⟨#[]⟩, ⟨#[]⟩, []⟩) ha (by show (0 : Nat) ≤ 3000; omega)
    rw [act7] at this
    exact hd _ (this.mono (by omega))
  rw [doA_app h1 h2 h3]
  exact h.app q _
/-- A new store. -/
theorem create_gd {D : Dp.Dk} {k : Nat} (h : Bd D k) (hk : k + 6 ≤ 10 * 1) (he : (createT D).2 = 0) : Gd (createT D).1 1 := by
  have b1 := bd_create h (segN 0)
  unfold createT at he ⊢
  split
  · rename_i hc
    rw [if_pos hc] at he
    exact absurd he hc
  · rename_i hc
    rw [if_neg hc] at he
    have b2 := bd_swap b1 (man ⟨(Dp.create D (segN 0)).1, 1, [⟨0, 0, 0⟩], 0, 0, 0, 0⟩)
    dsimp only at he ⊢
    split
    · rename_i hw
      rw [if_pos hw] at he
      exact absurd he hw
    · exact ⟨b2.mono (by omega), ⟨show (0 : Int) ≤ 1 by decide, show (1 : Int) ≤ ((1 : Nat) : Int) by decide⟩, show 1 ≤ 1 by decide, by simp, fun g hg => by
        obtain rfl : g = ⟨0, 0, 0⟩ := by simpa using hg
        exact ⟨⟨show (0 : Int) ≤ 0 by decide, show (0 : Int) ≤ ((1 : Nat) : Int) by decide⟩, ⟨show (0 : Int) ≤ 0 by decide, show (0 : Int) ≤ ((1 : Nat) : Int) by decide⟩, show (0 : Int) ≤ 0 by decide, show (0 : Int) ≤ 100 * ((1 : Nat) : Int) by decide⟩, ⟨show (0 : Int) ≤ 0 by decide, show (0 : Int) ≤ ((1 : Nat) : Int) by decide⟩, ⟨show (0 : Int) ≤ 0 by decide, show (0 : Int) ≤ ((1 : Nat) : Int) by decide⟩, rfl, rfl⟩

end Go.Proofs.YthhhocgpoenigaaGreat.Sto

namespace Go.Proofs.YthhhocgpoenigaaGreat
open Go.RowKit

/-- What Get answers of a body. -/
def getVal (l : List UInt8) : Value := .tuple #[recVal (Rp.get l).1, .int .i64 (Rp.get l).2]
theorem getVal_no {l : List UInt8} {e : Int} (h : Rp.get l = (Rp.zero, e)) : getVal l = .tuple #[.agg #[.int .i64 0, .int .i64 0, .string ⟨#[]⟩], .int .i64 e] := by
  unfold getVal
  rw [h]
  rfl
theorem getVal_yes {l : List UInt8} {r : Rp.Rec} (h : Rp.get l = (r, 0)) : getVal l = .tuple #[recVal r, .int .i64 0] := by
  unfold getVal
  rw [h]
set_option maxRecDepth 100000 in
set_option maxHeartbeats 1600000 in
theorem rget_none (s : ByteArray) (w : World) (hs : s.size ≤ 9223372036854775807) (ht : Vp.take s.data.toList = none) :
    Calls Tryz.prog 145 #[.string s] w fun e w' => e = .returned (getVal s.data.toList) ∧ Below w.heap.size w w' := by
  have C := fun W : World => rread_any s 0 W hs
  rw [show rdAt s 0 = .tuple #[.int .i64 0, .int .i64 0, .bool false] from rdVal_none 0 ht] at C
  have C := Lib.hid C
  have HV := Lib.hid (getVal_no (Rp.get_none ht))
  clear ht
  go_enter Tryz.func145, Tryz.ntmps145
  go_wp2_with fail
  refine (C.out _).mono ?_
  rintro e w1 ⟨rfl, b1⟩
  obtain ⟨hc, hf⟩ := bcell b1
  go_wp2_with fail
  have hb : Below w.heap.size w w1 := bel_of_alloc b1
  exact bodyPost_ret (v := .tuple #[.agg #[.int .i64 0, .int .i64 0, .string ⟨#[]⟩], .int .i64 3]) (by simp [results, Tryz.results145, go_sem, hc]) rfl
    ⟨by rw [HV.out], ((hb.setCell (p := ⟨w.heap.size, 0, none⟩) (Nat.le_refl _) _).setCell (p := ⟨w.heap.size, 1, none⟩) (Nat.le_refl _) _).setCell (p := ⟨w.heap.size, 2, none⟩) (Nat.le_refl _) _⟩

set_option maxRecDepth 100000 in
set_option maxHeartbeats 1600000 in
theorem rget_half (s : ByteArray) (w : World) (hs : s.size ≤ 9223372036854775807) (n j : Nat) (ht : Vp.take s.data.toList = some (n, j)) (ht2 : Vp.take (s.data.toList.drop j) = none) :
    Calls Tryz.prog 145 #[.string s] w fun e w' => e = .returned (getVal s.data.toList) ∧ Below w.heap.size w w' := by
  have C := fun W : World => rread_any s ((0 : Nat) : Int) W hs
  rw [rdAt_some (k := 0) ht (Nat.zero_add j)] at C
  have C : ∀ W : World, Calls Tryz.prog 151 #[.string s, .int .i64 0] W fun e w' => e = .returned (.tuple #[.int .i64 (n : Int), .int .i64 (j : Int), .bool true]) ∧ Below W.heap.size W w' := C
  have C := Lib.hid C
  have D := fun W : World => rread_any s (j : Int) W hs
  rw [rdAt_none ht2] at D
  have D := Lib.hid D
  have HV := Lib.hid (getVal_no (Rp.get_half ht ht2))
  clear ht ht2
  go_enter Tryz.func145, Tryz.ntmps145
  go_wp2_with fail
  refine (C.out _).mono ?_
  rintro e w1 ⟨rfl, b1⟩
  go_wp2_with fail
  refine (D.out _).mono ?_
  rintro e w2 ⟨rfl, b2⟩
  have b12 := bel_trans2 b1 b2
  obtain ⟨hc, hf⟩ := bcell b12
  go_wp2_with fail
  have hb : Below w.heap.size w w2 := bel_of_alloc b12
  exact bodyPost_ret (v := .tuple #[.agg #[.int .i64 0, .int .i64 0, .string ⟨#[]⟩], .int .i64 3]) (by simp [results, Tryz.results145, go_sem, hc]) rfl
    ⟨by rw [HV.out], ((hb.setCell (p := ⟨w.heap.size, 0, none⟩) (Nat.le_refl _) _).setCell (p := ⟨w.heap.size, 1, none⟩) (Nat.le_refl _) _).setCell (p := ⟨w.heap.size, 2, none⟩) (Nat.le_refl _) _⟩

set_option maxRecDepth 100000 in
set_option maxHeartbeats 1600000 in
theorem rget_whole (s : ByteArray) (w : World) (hs : s.size ≤ 9223372036854775807) (n j m k : Nat) (ht : Vp.take s.data.toList = some (n, j)) (ht2 : Vp.take (s.data.toList.drop j) = some (m, k)) :
    Calls Tryz.prog 145 #[.string s] w fun e w' => e = .returned (getVal s.data.toList) ∧ Below w.heap.size w w' := by
  have C := fun W : World => rread_any s ((0 : Nat) : Int) W hs
  rw [rdAt_some (k := 0) ht (Nat.zero_add j)] at C
  have C : ∀ W : World, Calls Tryz.prog 151 #[.string s, .int .i64 0] W fun e w' => e = .returned (.tuple #[.int .i64 (n : Int), .int .i64 (j : Int), .bool true]) ∧ Below W.heap.size W w' := C
  have C := Lib.hid C
  obtain ⟨q, hq⟩ : ∃ q, j + k = q := ⟨_, rfl⟩
  have D := fun W : World => rread_any s (j : Int) W hs
  rw [rdAt_some ht2 hq] at D
  have D := Lib.hid D
  have hjl := (Vp.take_some ht).2.2.1
  have hkl := (Vp.take_some ht2).2.2.1
  rw [List.length_drop] at hkl
  rw [show s.data.toList.length = s.size from rfl] at hjl hkl
  have q0 : (0 : Int) ≤ (q : Int) := by omega
  have q1 : (q : Int) ≤ (s.size : Int) := by omega
  have E := fun W : World => why_any ⟨(n : Int), (m : Int), s.extract q s.size⟩ W (by show (s.extract q s.size).size ≤ _; rw [ByteArray.size_extract]; omega)
  have hG := @Rp.get_bad s.data.toList n j m k ht ht2
  have hY := @Rp.get_yes s.data.toList n j m k ht ht2
  rw [hq, ext_drop] at hG hY
  clear ht ht2 hq hjl hkl
  unfold recVal at E
  dsimp only at E
  rcases Rp.fault_cases ⟨(n : Int), (m : Int), s.extract q s.size⟩ with ⟨hf0, _⟩ | ⟨_, hf0⟩
  · have HV := Lib.hid (getVal_yes (hY hf0))
    rw [hf0] at E
    have E := Lib.hid E
    clear hf0 hG hY
    go_enter Tryz.func145, Tryz.ntmps145
    go_wp2_with fail
    refine (C.out _).mono ?_
    rintro e w1 ⟨rfl, b1⟩
    go_wp2_with fail
    refine (D.out _).mono ?_
    rintro e w2 ⟨rfl, b2⟩
    have b12 := bel_trans2 b1 b2
    go_wp2_with fail
    refine (E.out _).mono ?_
    rintro e w3 ⟨rfl, b3⟩
    obtain ⟨x0, x1, x2, b23⟩ := box_keep (box_new w2 _ _ _ _) b3
    have b123 := bel_trans2 b12 b23
    obtain ⟨hc, hf⟩ := bcell b123
    go_wp2_with fail
    have hb : Below w.heap.size w w3 := bel_of_alloc b123
    exact bodyPost_ret (v := .tuple #[.agg #[.int .i64 (n : Int), .int .i64 (m : Int), .string (s.extract q s.size)], .int .i64 0]) (by simp [results, Tryz.results145, go_sem, hc]) rfl
      ⟨by rw [HV.out]; rfl, ((hb.setCell (p := ⟨w.heap.size, 0, none⟩) (Nat.le_refl _) _).setCell (p := ⟨w.heap.size, 1, none⟩) (Nat.le_refl _) _).setCell (p := ⟨w.heap.size, 2, none⟩) (Nat.le_refl _) _⟩
  · obtain ⟨e0, he0⟩ : ∃ e0, Rp.fault ⟨(n : Int), (m : Int), s.extract q s.size⟩ = e0 := ⟨_, rfl⟩
    rw [he0] at E hf0 hG
    have HV := Lib.hid (getVal_no (hG (by omega)))
    have E := Lib.hid E
    clear hG hY he0
    rcases hf0 with rfl | rfl
    all_goals
      go_enter Tryz.func145, Tryz.ntmps145
      go_wp2_with fail
      refine (C.out _).mono ?_
      rintro e w1 ⟨rfl, b1⟩
      go_wp2_with fail
      refine (D.out _).mono ?_
      rintro e w2 ⟨rfl, b2⟩
      have b12 := bel_trans2 b1 b2
      go_wp2_with fail
      refine (E.out _).mono ?_
      rintro e w3 ⟨rfl, b3⟩
      have b123 := bel_trans2 b12 (bel_of_alloc b3)
      obtain ⟨hc, hf⟩ := bcell b123
      go_wp2_with fail
      have hb : Below w.heap.size w w3 := bel_of_alloc b123
      refine bodyPost_ret (v := .tuple #[.agg #[.int .i64 0, .int .i64 0, .string ⟨#[]⟩], .int .i64 _]) (by simp [results, Tryz.results145, go_sem, hc]; rfl) rfl
        ⟨by rw [HV.out], ((hb.setCell (p := ⟨w.heap.size, 0, none⟩) (Nat.le_refl _) _).setCell (p := ⟨w.heap.size, 1, none⟩) (Nat.le_refl _) _).setCell (p := ⟨w.heap.size, 2, none⟩) (Nat.le_refl _) _⟩

end Go.Proofs.YthhhocgpoenigaaGreat

namespace Go.Proofs.YthhhocgpoenigaaGreat
open Go.RowKit

theorem made_func (fn : Fn) (first cap : Array Value) (w : World) : (Instr.makeFunc fn first cap).run Tryz.prog w = .ok (.func fn first cap) w := rfl
/-- What record's Get has laid: the text, the result's cells, the place. -/
structure GB (w : World) (s : ByteArray) (i : Int) (W : World) : Prop where
  h0 : W.heap[w.heap.size]? = some (.cells #[.string s] 9 (0, 0))
  h1 : W.heap[w.heap.size + 1]? = some (.cells #[.int .i64 0, .int .i64 0, .string ⟨#[]⟩] 57 (0, 0))
  h2 : W.heap[w.heap.size + 1 + 1]? = some (.cells #[.int .i64 i] 3 (0, 0))
  b : Below w.heap.size w W
theorem GB.lt {w W : World} {s : ByteArray} {i : Int} (h : GB w s i W) : w.heap.size + 1 + 1 < W.heap.size := by
  rcases Nat.lt_or_ge (w.heap.size + 1 + 1) W.heap.size with h' | h'
  · exact h'
  · have := h.h2
    simp [Array.getElem?_eq_none h'] at this
theorem heap_alloc_lt {w : World} {o : Obj} {k : Nat} {x : Obj} (h : w.heap[k]? = some x) : (w.alloc o).heap[k]? = some x := by
  rw [Lib.alloc_old w o k (by
    rcases Nat.lt_or_ge k w.heap.size with h' | h'
    · exact h'
    · simp [Array.getElem?_eq_none h'] at h)]
  exact h
theorem GB.new (w : World) (s : ByteArray) : GB w s 0 (((w.alloc (.cells #[.string s] 9)).alloc (.cells #[.int .i64 0, .int .i64 0, .string ⟨#[]⟩] 57)).alloc (.cells #[.int .i64 0] 3)) := by
  refine ⟨heap_alloc_lt (heap_alloc_lt (heap_alloc_new w _)), ?_, ?_, ((((Below.refl _ _).alloc (Nat.le_refl _) _).alloc (by simp) _).alloc (by simp; omega) _)⟩
  · refine heap_alloc_lt ?_
    have := heap_alloc_new (w.alloc (.cells #[.string s] 9)) (.cells #[.int .i64 0, .int .i64 0, .string ⟨#[]⟩] 57)
    simpa using this
  · have := heap_alloc_new ((w.alloc (.cells #[.string s] 9)).alloc (.cells #[.int .i64 0, .int .i64 0, .string ⟨#[]⟩] 57)) (.cells #[.int .i64 0] 3)
    simpa using this
theorem GB.step {w W : World} {s : ByteArray} {i : Int} (h : GB w s i W) (k : Nat) (x : Int) : GB w s x ((W.drewN k).setCell ⟨w.heap.size + 1 + 1, 0, none⟩ (.int .i64 x)) := by
  refine ⟨?_, ?_, heap_setCell_same (W.drewN k) (w.heap.size + 1 + 1) 0 #[.int .i64 i] 3 (.int .i64 x) h.h2, (h.b.trans ((below_drewN k).mono h.b.size)).setCell (p := ⟨w.heap.size + 1 + 1, 0, none⟩) (by show w.heap.size ≤ w.heap.size + 1 + 1; omega) _⟩
  · rw [heap_setCell_other _ _ _ _ (by show w.heap.size ≠ w.heap.size + 1 + 1; omega)]; exact h.h0
  · rw [heap_setCell_other _ _ _ _ (by show w.heap.size + 1 ≠ w.heap.size + 1 + 1; omega)]; exact h.h1
theorem GB.below {w W W' : World} {s : ByteArray} {i : Int} (h : GB w s i W) (b : Below W.heap.size W W') : GB w s i W' := by
  have hl := h.lt
  refine ⟨?_, ?_, ?_, h.b.trans (b.mono h.b.size)⟩
  · rw [b.block _ (by omega)]; exact h.h0
  · rw [b.block _ (by omega)]; exact h.h1
  · rw [b.block _ (by omega)]; exact h.h2
theorem GB.c0 {w W : World} {s : ByteArray} {i : Int} (h : GB w s i W) : W.cell? ⟨w.heap.size, 0, none⟩ = some (.string s) := by rw [Lib.cell_of_heap h.h0]; rfl
theorem GB.c2 {w W : World} {s : ByteArray} {i : Int} (h : GB w s i W) : W.cell? ⟨w.heap.size + 1 + 1, 0, none⟩ = some (.int .i64 i) := by rw [Lib.cell_of_heap h.h2]; rfl
theorem GB.f2 {w W : World} {s : ByteArray} {i : Int} (h : GB w s i W) : W.frozen? ⟨w.heap.size + 1 + 1, 0, none⟩ = false := Lib.frozen_of_heap h.h2 0
theorem GB.r {w W : World} {s : ByteArray} {i : Int} (h : GB w s i W) : W.cell? ⟨w.heap.size + 1, 0, none⟩ = some (.int .i64 0) ∧ W.cell? ⟨w.heap.size + 1, 1, none⟩ = some (.int .i64 0) ∧ W.cell? ⟨w.heap.size + 1, 2, none⟩ = some (.string ⟨#[]⟩) :=
  ⟨by rw [Lib.cell_of_heap h.h1]; rfl, by rw [Lib.cell_of_heap h.h1]; rfl, by rw [Lib.cell_of_heap h.h1]; rfl⟩
theorem GB.g {w W : World} {s : ByteArray} {i : Int} (h : GB w s i W) : W.frozen? ⟨w.heap.size + 1, 0, none⟩ = false ∧ W.frozen? ⟨w.heap.size + 1, 1, none⟩ = false ∧ W.frozen? ⟨w.heap.size + 1, 2, none⟩ = false :=
  ⟨Lib.frozen_of_heap h.h1 0, Lib.frozen_of_heap h.h1 1, Lib.frozen_of_heap h.h1 2⟩
theorem GB.set {w W : World} {s : ByteArray} {i : Int} (h : GB w s i W) (x y z : Value) : Below w.heap.size w (((W.setCell ⟨w.heap.size + 1, 0, none⟩ x).setCell ⟨w.heap.size + 1, 1, none⟩ y).setCell ⟨w.heap.size + 1, 2, none⟩ z) :=
  ((h.b.setCell (p := ⟨w.heap.size + 1, 0, none⟩) (Nat.le_succ _) _).setCell (p := ⟨w.heap.size + 1, 1, none⟩) (Nat.le_succ _) _).setCell (p := ⟨w.heap.size + 1, 2, none⟩) (Nat.le_succ _) _

set_option maxRecDepth 100000 in
set_option maxHeartbeats 1600000 in
/-- The closure: it reads the number at the place, and puts the place behind it. -/
theorem clo_any (s : ByteArray) (i n nx : Int) (ok : Bool) (b1 b2 : Nat) (w : World) (hs : s.size ≤ 9223372036854775807)
    (hr : rdAt s i = .tuple #[.int .i64 n, .int .i64 nx, .bool ok])
    (h1 : w.cell? ⟨b1, 0, none⟩ = some (.string s)) (h2 : w.cell? ⟨b2, 0, none⟩ = some (.int .i64 i)) (hf : w.frozen? ⟨b2, 0, none⟩ = false) :
    Calls Tryz.prog 103 #[.pointer (some ⟨b1, 0, none⟩), .pointer (some ⟨b2, 0, none⟩)] w fun e w' => e = .returned (.tuple #[.int .i64 n, .bool ok]) ∧ ∃ k, w' = (w.drewN k).setCell ⟨b2, 0, none⟩ (.int .i64 nx) := by
  have C := fun W : World => read_any s i W hs
  rw [hr] at C
  have C := Lib.hid C
  clear hr
  go_enter Tryz.func103, Tryz.ntmps103
  go_wp2_with fail
  refine (C.out _).mono ?_
  rintro e w1 ⟨rfl, k, rfl⟩
  go_wp2_with fail
  go_ret2
  exact ⟨rfl, k, rfl⟩

set_option maxRecDepth 100000 in
set_option maxHeartbeats 1600000 in
theorem get_none (s : ByteArray) (w : World) (hs : s.size ≤ 9223372036854775807) (ht : Vp.take s.data.toList = none) :
    Calls Tryz.prog 60 #[.string s] w fun e w' => e = .returned (getVal s.data.toList) ∧ Below w.heap.size w w' := by
  have C := fun b1 b2 (W : World) => clo_any s 0 0 0 false b1 b2 W hs (rdVal_none 0 ht)
  have C := Lib.hid C
  have HV := Lib.hid (getVal_no (Rp.get_none ht))
  have hmf := made_func
  clear ht
  go_enter Tryz.func60, Tryz.ntmps60
  go_wp2_with fail
  have G0 := GB.new w s
  refine (C.out _ _ _ G0.c0 G0.c2 G0.f2).mono ?_
  rintro e w1 ⟨rfl, k, rfl⟩
  have G1 := G0.step k 0
  generalize World.setCell _ _ _ = w1 at G1 ⊢
  have HG := Lib.hid G1
  obtain ⟨r0, r1, r2⟩ := G1.r
  obtain ⟨g0, g1, g2⟩ := G1.g
  clear G0 G1
  go_wp2_with fail
  exact bodyPost_ret (v := .tuple #[.agg #[.int .i64 0, .int .i64 0, .string ⟨#[]⟩], .int .i64 3]) (by simp [results, Tryz.results60, go_sem, r0, r1, r2]) rfl
    ⟨by rw [HV.out], HG.out.set _ _ _⟩

set_option maxRecDepth 100000 in
set_option maxHeartbeats 1600000 in
theorem get_half (s : ByteArray) (w : World) (hs : s.size ≤ 9223372036854775807) (n j : Nat) (ht : Vp.take s.data.toList = some (n, j)) (ht2 : Vp.take (s.data.toList.drop j) = none) :
    Calls Tryz.prog 60 #[.string s] w fun e w' => e = .returned (getVal s.data.toList) ∧ Below w.heap.size w w' := by
  have C := fun b1 b2 (W : World) => clo_any s 0 n j true b1 b2 W hs (rdAt_some (k := 0) ht (Nat.zero_add j))
  have C := Lib.hid C
  have D := fun b1 b2 (W : World) => clo_any s j 0 0 false b1 b2 W hs (rdAt_none ht2)
  have D := Lib.hid D
  have HV := Lib.hid (getVal_no (Rp.get_half ht ht2))
  have hmf := made_func
  clear ht ht2
  go_enter Tryz.func60, Tryz.ntmps60
  go_wp2_with fail
  have G0 := GB.new w s
  refine (C.out _ _ _ G0.c0 G0.c2 G0.f2).mono ?_
  rintro e w1 ⟨rfl, k, rfl⟩
  have G1 := G0.step k j
  generalize World.setCell _ _ _ = w1 at G1 ⊢
  clear G0
  have HG := Lib.hid G1
  clear G1
  go_wp2_with fail
  refine (D.out _ _ _ HG.out.c0 HG.out.c2 HG.out.f2).mono ?_
  rintro e w2 ⟨rfl, k2, rfl⟩
  have G2 := HG.out.step k2 0
  generalize World.setCell _ _ _ = w2 at G2 ⊢
  have HG2 := Lib.hid G2
  obtain ⟨r0, r1, r2⟩ := G2.r
  obtain ⟨g0, g1, g2⟩ := G2.g
  clear G2
  go_wp2_with fail
  exact bodyPost_ret (v := .tuple #[.agg #[.int .i64 0, .int .i64 0, .string ⟨#[]⟩], .int .i64 3]) (by simp [results, Tryz.results60, go_sem, r0, r1, r2]) rfl
    ⟨by rw [HV.out], HG2.out.set _ _ _⟩

set_option maxRecDepth 100000 in
set_option maxHeartbeats 1600000 in
theorem get_whole (s : ByteArray) (w : World) (hs : s.size ≤ 9223372036854775807) (n j m k : Nat) (ht : Vp.take s.data.toList = some (n, j)) (ht2 : Vp.take (s.data.toList.drop j) = some (m, k)) :
    Calls Tryz.prog 60 #[.string s] w fun e w' => e = .returned (getVal s.data.toList) ∧ Below w.heap.size w w' := by
  have C := fun b1 b2 (W : World) => clo_any s 0 n j true b1 b2 W hs (rdAt_some (k := 0) ht (Nat.zero_add j))
  have C := Lib.hid C
  obtain ⟨q, hq⟩ : ∃ q, j + k = q := ⟨_, rfl⟩
  have D := fun b1 b2 (W : World) => clo_any s j m q true b1 b2 W hs (rdAt_some ht2 hq)
  have D := Lib.hid D
  have hjl := (Vp.take_some ht).2.2.1
  have hkl := (Vp.take_some ht2).2.2.1
  rw [List.length_drop] at hkl
  rw [show s.data.toList.length = s.size from rfl] at hjl hkl
  have q0 : (0 : Int) ≤ (q : Int) := by omega
  have q1 : (q : Int) ≤ (s.size : Int) := by omega
  have E := fun W : World => fault_any ⟨(n : Int), (m : Int), s.extract q s.size⟩ W (by show (s.extract q s.size).size ≤ _; rw [ByteArray.size_extract]; omega)
  have hG := @Rp.get_bad s.data.toList n j m k ht ht2
  have hY := @Rp.get_yes s.data.toList n j m k ht ht2
  rw [hq, ext_drop] at hG hY
  clear ht ht2 hq hjl hkl
  unfold recVal at E
  dsimp only at E
  have hmf := made_func
  rcases Rp.fault_cases ⟨(n : Int), (m : Int), s.extract q s.size⟩ with ⟨hf0, _⟩ | ⟨_, hf0⟩
  · have HV := Lib.hid (getVal_yes (hY hf0))
    rw [hf0] at E
    have E := Lib.hid E
    clear hf0 hG hY
    go_enter Tryz.func60, Tryz.ntmps60
    go_wp2_with fail
    have G0 := GB.new w s
    refine (C.out _ _ _ G0.c0 G0.c2 G0.f2).mono ?_
    rintro e w1 ⟨rfl, k1, rfl⟩
    have G1 := G0.step k1 j
    generalize World.setCell _ _ _ = w1 at G1 ⊢
    clear G0
    have HG := Lib.hid G1
    clear G1
    go_wp2_with fail
    refine (D.out _ _ _ HG.out.c0 HG.out.c2 HG.out.f2).mono ?_
    rintro e w2 ⟨rfl, k2, rfl⟩
    have G2 := HG.out.step k2 q
    generalize World.setCell _ _ _ = w2 at G2 ⊢
    have HG2 := Lib.hid G2
    have x0 := G2.c0
    have x2 := G2.c2
    clear G2
    go_wp2_with fail
    refine (E.out _).mono ?_
    rintro e w3 ⟨rfl, b3⟩
    obtain ⟨y0, y1, y2, b23⟩ := box_keep (box_new w2 _ _ _ _) b3
    have G3 := HG2.out.below b23
    have HG3 := Lib.hid G3
    obtain ⟨r0, r1, r2⟩ := G3.r
    obtain ⟨g0, g1, g2⟩ := G3.g
    clear G3
    go_wp2_with fail
    exact bodyPost_ret (v := .tuple #[.agg #[.int .i64 (n : Int), .int .i64 (m : Int), .string (s.extract q s.size)], .int .i64 0]) (by simp [results, Tryz.results60, go_sem, r0, r1, r2]) rfl
      ⟨by rw [HV.out]; rfl, HG3.out.set _ _ _⟩
  · obtain ⟨e0, he0⟩ : ∃ e0, Rp.fault ⟨(n : Int), (m : Int), s.extract q s.size⟩ = e0 := ⟨_, rfl⟩
    rw [he0] at E hf0 hG
    have HV := Lib.hid (getVal_no (hG (by omega)))
    have E := Lib.hid E
    clear hG hY he0
    rcases hf0 with rfl | rfl
    all_goals
      go_enter Tryz.func60, Tryz.ntmps60
      go_wp2_with fail
      have G0 := GB.new w s
      refine (C.out _ _ _ G0.c0 G0.c2 G0.f2).mono ?_
      rintro e w1 ⟨rfl, k1, rfl⟩
      have G1 := G0.step k1 j
      generalize World.setCell _ _ _ = w1 at G1 ⊢
      clear G0
      have HG := Lib.hid G1
      clear G1
      go_wp2_with fail
      refine (D.out _ _ _ HG.out.c0 HG.out.c2 HG.out.f2).mono ?_
      rintro e w2 ⟨rfl, k2, rfl⟩
      have G2 := HG.out.step k2 q
      generalize World.setCell _ _ _ = w2 at G2 ⊢
      have HG2 := Lib.hid G2
      have x0 := G2.c0
      have x2 := G2.c2
      clear G2
      go_wp2_with fail
      refine (E.out _).mono ?_
      rintro e w3 ⟨rfl, b3⟩
      have G3 := HG2.out.below (bel_of_alloc b3)
      have HG3 := Lib.hid G3
      obtain ⟨r0, r1, r2⟩ := G3.r
      obtain ⟨g0, g1, g2⟩ := G3.g
      clear G3
      go_wp2_with fail
      refine bodyPost_ret (v := .tuple #[.agg #[.int .i64 0, .int .i64 0, .string ⟨#[]⟩], .int .i64 _]) (by simp [results, Tryz.results60, go_sem, r0, r1, r2]; rfl) rfl
        ⟨by rw [HV.out], HG3.out.set _ _ _⟩

/-- record's Get, at any body. -/
theorem get_any (s : ByteArray) (w : World) (hs : s.size ≤ 9223372036854775807) :
    Calls Tryz.prog 60 #[.string s] w fun e w' => e = .returned (getVal s.data.toList) ∧ Below w.heap.size w w' := by
  rcases ht : Vp.take s.data.toList with _ | ⟨n, j⟩
  · exact get_none s w hs ht
  rcases ht2 : Vp.take (s.data.toList.drop j) with _ | ⟨m, k⟩
  · exact get_half s w hs n j ht ht2
  · exact get_whole s w hs n j m k ht ht2
/-- The document's Get, at any body. -/
theorem rget_any (s : ByteArray) (w : World) (hs : s.size ≤ 9223372036854775807) :
    Calls Tryz.prog 145 #[.string s] w fun e w' => e = .returned (getVal s.data.toList) ∧ Below w.heap.size w w' := by
  rcases ht : Vp.take s.data.toList with _ | ⟨n, j⟩
  · exact rget_none s w hs ht
  rcases ht2 : Vp.take (s.data.toList.drop j) with _ | ⟨m, k⟩
  · exact rget_half s w hs n j ht ht2
  · exact rget_whole s w hs n j m k ht ht2

end Go.Proofs.YthhhocgpoenigaaGreat
