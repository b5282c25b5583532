/-
  Parts of what the laws of this seat stand on: StoApp, StoGood, RecGet, RecGetC, RecOpen, RecOwn, FrameAlls, RecRows, SegRef, StoRdd, StoFrom.
-/
import Derived.BigQuiet
import Derived.ChangeArms
import Derived.Deep.RegionHeld3
import Derived.Deep.RegionLaw
import Derived.Deep.Slices
import Derived.Deep.Strs
import Derived.IntWalk
import Derived.Laws.AppendOwnNone
import Derived.Laws.StructEq
import Derived.Lib.Builder
import Derived.Lib.SliceRun
import Derived.Lib.SmallJoins
import Derived.Lib.Strings
import Derived.Outline
import Derived.Shelf.RegionOpenPlain
import Derived.Test.YthhhocgpoenigaaBu1
import Derived.Test.YthhhocgpoenigaaBu10
import Derived.Test.YthhhocgpoenigaaBu12
import Derived.Test.YthhhocgpoenigaaBu7
import Derived.Test.YthhhocgpoenigaaBu8
import Derived.Test.YthhhocgpoenigaaBu9
namespace Go.Proofs.Ythhhocgpoenigaa.Sto
open Go.RowKit Go.Proofs.Ythhhocgpoenigaa.So Go.Proofs.Ythhhocgpoenigaa.Dsk Go.Proofs.Ythhhocgpoenigaa.Rts

/-- What a roll leaves. -/
theorem roll_facts {S : St} {k : Nat} (hn : S.g ≠ []) (hB : Stb S) (hS : Bd S.d k) (hk : k ≤ 70000) (hver : S.v < 1152921504606846976) :
    Bd (roll S).1.d (k + 8) ∧ Stb (roll S).1 ∧ (roll S).1.g ≠ [] ∧ (roll S).1.x = S.x := by
  have stb : ∀ T : St, Bd T.d (k + 8) → 0 ≤ T.v → T.v ≤ S.v + 1 → T.g.length ≤ 1000 → (∀ g ∈ T.g, g ∈ S.g ∨ g = ⟨S.x, 0, 0⟩) → T.x = S.x → (T.s = S.x ∨ T.s = S.s) → T.z = S.z → T.c = S.c → Stb T := fun T h1 h2 h3 h4 h5 h6 h7 h8 h9 => by
    have h0 := hB.x
    refine ⟨bd_sm3 h1 (by omega), ⟨h2, by omega⟩, h4, fun g hg => ?_, by rw [h6]; exact hB.x, ?_, by rw [h8]; exact hB.z, by rw [h9]; exact hB.c⟩
    · rcases h5 g hg with h | h
      · exact hB.g g h
      · subst h
        exact ⟨hB.x, ⟨by show (0 : Int) ≤ 0; omega, by show (0 : Int) ≤ 1152921504606846976; omega⟩, ⟨by show (0 : Int) ≤ 0; omega, by show (0 : Int) ≤ 1152921504606846976; omega⟩⟩
    · rcases h7 with h | h
      · rw [h]; exact hB.x
      · rw [h]; exact hB.s
  have hv := hB.v
  by_cases h64 : 64 ≤ S.g.length
  · rw [roll_full h64]
    exact ⟨hS.mono (by omega), hB, hn, rfl⟩
  obtain ⟨⟨T, E0⟩, hT⟩ : ∃ R, syncT S = R := ⟨_, rfl⟩
  obtain ⟨t1, t2, t3, t4, t5, t6, t7⟩ := syncT_facts S hS hT
  have same : ∀ D : Dp.Dk, Bd D (k + 8) → Bd ({ T with d := D } : St).d (k + 8) ∧ Stb { T with d := D } ∧ ({ T with d := D } : St).g ≠ [] ∧ ({ T with d := D } : St).x = S.x := fun D hD =>
    ⟨hD, stb _ hD (by show 0 ≤ T.v; omega) (by show T.v ≤ _; omega) (by show T.g.length ≤ _; rw [t2]; exact hB.n) (fun g hg => .inl (by rw [← t2]; exact hg)) t3 t7 t5 t6, by show T.g ≠ []; rw [t2]; exact hn, t3⟩
  by_cases hz : E0 = 0
  case neg =>
    rw [roll_sync h64 hT hz]
    exact same T.d (t1.mono (by omega))
  subst hz
  obtain ⟨⟨C1, E1⟩, hC⟩ : ∃ R, Dp.create T.d (segN T.x) = R := ⟨_, rfl⟩
  have b1 := bd_create t1 (segN T.x)
  rw [hC] at b1
  dsimp only at b1
  by_cases hz : E1 = 0
  case neg =>
    rw [roll_create h64 hT hC hz]
    exact same C1 (b1.mono (by omega))
  subst hz
  obtain ⟨⟨W1, E2⟩, hW⟩ : ∃ R, swap C1 (man (more T C1)) = R := ⟨_, rfl⟩
  have b2 := bd_swap b1 (man (more T C1))
  rw [hW] at b2
  dsimp only at b2
  by_cases h9 : E2 = 9
  · subst h9
    obtain ⟨⟨X1, E3⟩, hX⟩ : ∃ R, Dp.delete W1 (segN T.x) = R := ⟨_, rfl⟩
    have b3 := bd_delete b2 (segN T.x)
    rw [hX] at b3
    dsimp only at b3
    rw [roll_nine h64 hT hC hW hX]
    exact same X1 (b3.mono (by omega))
  by_cases hz : E2 = 0
  case neg =>
    rw [roll_err h64 hT hC hW h9 hz]
    exact same W1 (b2.mono (by omega))
  subst hz
  rw [roll_ok h64 hT hC hW]
  refine ⟨b2.mono (by omega), stb _ (b2.mono (by omega)) (by show 0 ≤ T.v + 1; omega) (by show T.v + 1 ≤ _; omega) ?_ ?_ t3 t7 t5 t6, ?_, t3⟩
  · show (T.g ++ [_]).length ≤ 1000
    rw [List.length_append, t2]; simp; omega
  · intro g hg
    rcases List.mem_append.1 (show g ∈ T.g ++ [⟨T.x, 0, 0⟩] from hg) with hg | hg
    · exact .inl (by rw [← t2]; exact hg)
    · rw [List.mem_singleton] at hg
      rw [t3] at hg
      exact .inr hg
  · show T.g ++ [_] ≠ []
    simp

end Go.Proofs.Ythhhocgpoenigaa.Sto

namespace Go.Proofs.Ythhhocgpoenigaa.Sto
open Go.RowKit Go.Proofs.Ythhhocgpoenigaa.So Go.Proofs.Ythhhocgpoenigaa.Dsk Go.Proofs.Ythhhocgpoenigaa.Rts

/-- An act: its kind, a number, data. -/
structure Ac where
  k : Int
  n : Int
  d : ByteArray
def azero : Ac := ⟨0, 0, ⟨#[]⟩⟩
/-- The record of an act. -/
def recA (S : St) (a : Ac) : Rp.Rec := ⟨S.x + a.n.tmod 3, 7, a.d⟩
/-- An act on a store. -/
noncomputable def doA (q : Int) (S : St) (a : Ac) : St × Int :=
  if a.k = 1 then syncT S else if a.k = 2 then ({ S with d := Dp.arm S.d a.n }, 0) else if a.k = 3 then ({ S with d := Dp.limit S.d a.n }, 0) else append S q (recA S a)
theorem doA_sync {q : Int} {S : St} {a : Ac} (h : a.k = 1) : doA q S a = syncT S := by unfold doA; rw [if_pos h]
theorem doA_arm {q : Int} {S : St} {a : Ac} (h : a.k = 2) : doA q S a = ({ S with d := Dp.arm S.d a.n }, 0) := by unfold doA; rw [if_neg (by omega), if_pos h]
theorem doA_limit {q : Int} {S : St} {a : Ac} (h : a.k = 3) : doA q S a = ({ S with d := Dp.limit S.d a.n }, 0) := by unfold doA; rw [if_neg (by omega), if_neg (by omega), if_pos h]
theorem doA_app {q : Int} {S : St} {a : Ac} (h1 : a.k ≠ 1) (h2 : a.k ≠ 2) (h3 : a.k ≠ 3) : doA q S a = append S q (recA S a) := by unfold doA; rw [if_neg h1, if_neg h2, if_neg h3]

/-- What a roll leaves. -/
structure RollF (S T : St) (k : Nat) : Prop where
  d : Bd T.d k
  v0 : S.v ≤ T.v
  v1 : T.v ≤ S.v + 1
  n : T.g.length ≤ S.g.length + 1
  g : ∀ g ∈ T.g, g ∈ S.g ∨ g = ⟨S.x, 0, 0⟩
  x : T.x = S.x
  s : T.s = S.x ∨ T.s = S.s
  z : T.z = S.z
  c : T.c = S.c
  ne : T.g ≠ []
theorem roll_raw {S : St} {k : Nat} (hn : S.g ≠ []) (hS : Bd S.d k) : RollF S (roll S).1 (k + 8) := by
  by_cases h64 : 64 ≤ S.g.length
  · rw [roll_full h64]
    exact ⟨hS.mono (by omega), Int.le_refl _, by show S.v ≤ S.v + 1; omega, by show S.g.length ≤ _; omega, fun g hg => .inl hg, rfl, .inr rfl, rfl, rfl, hn⟩
  obtain ⟨⟨T, E0⟩, hT⟩ : ∃ R, syncT S = R := ⟨_, rfl⟩
  obtain ⟨t1, t2, t3, t4, t5, t6, t7⟩ := syncT_facts S hS hT
  have same : ∀ D : Dp.Dk, Bd D (k + 8) → RollF S { T with d := D } (k + 8) := fun D hD =>
    ⟨hD, by show S.v ≤ T.v; omega, by show T.v ≤ _; omega, by show T.g.length ≤ _; rw [t2]; omega, fun g hg => .inl (by rw [← t2]; exact hg), t3, t7, t5, t6, by show T.g ≠ []; rw [t2]; exact hn⟩
  by_cases hz : E0 = 0
  case neg =>
    rw [roll_sync h64 hT hz]
    exact same T.d (t1.mono (by omega))
  subst hz
  obtain ⟨⟨C1, E1⟩, hC⟩ : ∃ R, Dp.create T.d (segN T.x) = R := ⟨_, rfl⟩
  have b1 := bd_create t1 (segN T.x)
  rw [hC] at b1
  dsimp only at b1
  by_cases hz : E1 = 0
  case neg =>
    rw [roll_create h64 hT hC hz]
    exact same C1 (b1.mono (by omega))
  subst hz
  obtain ⟨⟨W1, E2⟩, hW⟩ : ∃ R, swap C1 (man (more T C1)) = R := ⟨_, rfl⟩
  have b2 := bd_swap b1 (man (more T C1))
  rw [hW] at b2
  dsimp only at b2
  by_cases h9 : E2 = 9
  · subst h9
    obtain ⟨⟨X1, E3⟩, hX⟩ : ∃ R, Dp.delete W1 (segN T.x) = R := ⟨_, rfl⟩
    have b3 := bd_delete b2 (segN T.x)
    rw [hX] at b3
    dsimp only at b3
    rw [roll_nine h64 hT hC hW hX]
    exact same X1 (b3.mono (by omega))
  by_cases hz : E2 = 0
  case neg =>
    rw [roll_err h64 hT hC hW h9 hz]
    exact same W1 (b2.mono (by omega))
  subst hz
  rw [roll_ok h64 hT hC hW]
  refine ⟨b2.mono (by omega), by show S.v ≤ T.v + 1; omega, by show T.v + 1 ≤ _; omega, ?_, ?_, t3, t7, t5, t6, ?_⟩
  · show (T.g ++ [_]).length ≤ _
    rw [List.length_append, t2]; simp
  · intro g hg
    rcases List.mem_append.1 (show g ∈ T.g ++ [⟨T.x, 0, 0⟩] from hg) with hg | hg
    · exact .inl (by rw [← t2]; exact hg)
    · rw [List.mem_singleton] at hg
      rw [t3] at hg
      exact .inr hg
  · show T.g ++ [_] ≠ []
    simp

/-- A store behind k acts. -/
structure Gd (S : St) (k : Nat) : Prop where
  d : Bd S.d (10 * k)
  v : 0 ≤ S.v ∧ S.v ≤ k
  n : S.g.length ≤ k
  ne : S.g ≠ []
  g : ∀ g ∈ S.g, (0 ≤ g.b ∧ g.b ≤ k) ∧ (0 ≤ g.n ∧ g.n ≤ k) ∧ (0 ≤ g.z ∧ g.z ≤ 100 * k)
  x : 0 ≤ S.x ∧ S.x ≤ k
  s : 0 ≤ S.s ∧ S.s ≤ k
  z : S.z = 0
  c : S.c = 0
theorem Gd.mono {S : St} {k j : Nat} (h : Gd S k) (hj : k ≤ j) : Gd S j :=
  ⟨h.d.mono (by omega), ⟨h.v.1, by have := h.v; omega⟩, by have := h.n; omega, h.ne, fun g hg => by obtain ⟨⟨a, b⟩, ⟨c, d⟩, e, f⟩ := h.g g hg; exact ⟨⟨a, by omega⟩, ⟨c, by omega⟩, e, by omega⟩, ⟨h.x.1, by have := h.x; omega⟩, ⟨h.s.1, by have := h.s; omega⟩, h.z, h.c⟩
theorem Gd.stb {S : St} {k : Nat} (h : Gd S k) (hk : k ≤ 900) : Stb S :=
  ⟨bd_sm3 h.d (by omega), ⟨h.v.1, by have := h.v; omega⟩, by have := h.n; omega, fun g hg => by obtain ⟨⟨a, b⟩, ⟨c, d⟩, e, f⟩ := h.g g hg; exact ⟨⟨a, by omega⟩, ⟨c, by omega⟩, e, by omega⟩, ⟨h.x.1, by have := h.x; omega⟩, ⟨h.s.1, by have := h.s; omega⟩, by rw [h.z]; exact ⟨Int.le_refl _, by decide⟩, by rw [h.c]; exact ⟨Int.le_refl _, by decide⟩⟩
theorem last_mem {S : St} (hn : S.g ≠ []) : lastG S ∈ S.g := by
  have hp : 0 < S.g.length := List.length_pos_iff.2 hn
  unfold lastG
  rw [getD_lt (by omega)]
  exact List.getElem_mem _
/-- A record put into the last segment. -/
theorem put_gd {S : St} {k j : Nat} (hd : Bd S.d j) (hj : j + 1 ≤ 10 * (k + 1)) (h : ∀ D, Bd D (10 * (k + 1)) → Gd { S with d := D } (k + 1)) (hx : S.x + 1 ≤ ((k + 1 : Nat) : Int)) (hl : (lastG S).n + 1 ≤ ((k + 1 : Nat) : Int) ∧ (lastG S).z + 100 ≤ 100 * ((k + 1 : Nat) : Int)) (r : Rp.Rec) : Gd (put S r).1 (k + 1) := by
  have h1 := h _ ((bd_append hd (segN (lastG S).b) (s := ⟨(Rp.putB r).toArray⟩) (by rw [size_mk_list]; have := Rp.putB_le r; omega)).mono (by omega))
  have hm := h1.g (lastG S) (last_mem (S := S) h1.ne)
  have hp := Rp.putB_le r
  unfold put
  dsimp only
  split
  · exact h1
  · refine ⟨h1.d, h1.v, by show (grown S.g _).length ≤ _; unfold grown; rw [List.length_set]; exact h1.n, ?_, fun g hg => ?_, ⟨by have := h1.x.1; show 0 ≤ S.x + 1; have e : (0 : Int) ≤ S.x := this; omega, hx⟩, h1.s, h1.z, h1.c⟩
    · show grown S.g _ ≠ []
      unfold grown
      intro e
      have e2 := congrArg List.length e
      rw [List.length_set] at e2
      have this : S.g.length = 0 := e2
      exact h1.ne (List.length_eq_zero_iff.1 this)
    · have hc : g ∈ S.g ∨ g = ⟨(lastG S).b, (lastG S).n + 1, (lastG S).z + ((Rp.putB r).length : Int)⟩ := List.mem_or_eq_of_mem_set (show g ∈ grown S.g (Rp.putB r).length from hg)
      rcases hc with hc | hc
      · exact h1.g g hc
      · subst hc
        exact ⟨hm.1, ⟨by show 0 ≤ (lastG S).n + 1; omega, hl.1⟩, by show 0 ≤ (lastG S).z + ((Rp.putB r).length : Int); omega, by show (lastG S).z + ((Rp.putB r).length : Int) ≤ 100 * ((k + 1 : Nat) : Int); omega⟩
theorem Gd.app {S : St} {k : Nat} (h : Gd S k) (q : Int) (r0 : Rp.Rec) : Gd (append S q r0).1 (k + 1) := by
  have hd : ∀ D, Bd D (10 * (k + 1)) → Gd { S with d := D } (k + 1) := fun D hD =>
    have m := h.mono (Nat.le_succ k)
    ⟨hD, m.v, m.n, m.ne, m.g, m.x, m.s, m.z, m.c⟩
  unfold append
  split
  · exact h.mono (Nat.le_succ k)
  split
  · exact h.mono (Nat.le_succ k)
  split
  · have r := roll_raw h.ne h.d
    have hx := h.x
    have hv := h.v
    have hs := h.s
    have hn := h.n
    have rg : ∀ g ∈ (roll S).1.g, (0 ≤ g.b ∧ g.b ≤ k) ∧ (0 ≤ g.n ∧ g.n ≤ k) ∧ (0 ≤ g.z ∧ g.z ≤ 100 * (k : Int)) := fun g hg => by
      rcases r.g g hg with e | e
      · exact h.g g e
      · subst e
        exact ⟨hx, ⟨Int.le_refl _, by show (0 : Int) ≤ k; omega⟩, Int.le_refl _, by show (0 : Int) ≤ 100 * (k : Int); omega⟩
    have rd : ∀ D, Bd D (10 * (k + 1)) → Gd { (roll S).1 with d := D } (k + 1) := fun D hD =>
      ⟨hD, ⟨by have := r.v0; show 0 ≤ (roll S).1.v; omega, by have := r.v1; show (roll S).1.v ≤ _; omega⟩, by have := r.n; show (roll S).1.g.length ≤ _; omega, r.ne, fun g hg => by obtain ⟨⟨a, b⟩, ⟨c, d⟩, e, f⟩ := rg g hg; exact ⟨⟨a, by omega⟩, ⟨c, by omega⟩, e, by omega⟩, by show 0 ≤ (roll S).1.x ∧ _ ≤ _; rw [r.x]; omega, by show 0 ≤ (roll S).1.s ∧ _ ≤ _; rcases r.s with e | e <;> rw [e] <;> omega, r.z.trans h.z, r.c.trans h.c⟩
    split
    · exact rd _ (r.d.mono (by omega))
    · have hl := rg (lastG (roll S).1) (last_mem r.ne)
      exact put_gd r.d (by omega) rd (by rw [r.x]; omega) ⟨by omega, by omega⟩ _
  · have hl := h.g (lastG S) (last_mem h.ne)
    have hx := h.x
    exact put_gd h.d (by omega) hd (by omega) ⟨by omega, by omega⟩ _
theorem Gd.act {S : St} {k : Nat} (h : Gd S k) (q : Int) (a : Ac) (ha : a.n ≤ 9223372036854775807) : Gd (doA q S a).1 (k + 1) := by
  have hd : ∀ D, Bd D (10 * (k + 1)) → Gd { S with d := D } (k + 1) := fun D hD =>
    have m := h.mono (Nat.le_succ k)
    ⟨hD, m.v, m.n, m.ne, m.g, m.x, m.s, m.z, m.c⟩
  by_cases h1 : a.k = 1
  · rw [doA_sync h1]
    have m := hd _ ((bd_sync h.d (segN (lastG S).b)).mono (by omega))
    unfold syncT
    refine ⟨m.d, m.v, m.n, m.ne, m.g, m.x, ?_, m.z, m.c⟩
    dsimp only
    split
    · exact m.x
    · exact m.s
  by_cases h2 : a.k = 2
  · rw [doA_arm h2]
    have := bd_step3 h.d (a := ⟨6, a.n, ⟨#[]⟩, ⟨#[]⟩, []⟩) ha (by show (0 : Nat) ≤ 3000; omega)
    rw [act6] at this
    exact hd _ (this.mono (by omega))
  by_cases h3 : a.k = 3
  · rw [doA_limit h3]
    have := bd_step3 h.d (a := ⟨7, a.n, ⟨#[]⟩, ⟨#[]⟩, []⟩) ha (by show (0 : Nat) ≤ 3000; omega)
    rw [act7] at this
    exact hd _ (this.mono (by omega))
  rw [doA_app h1 h2 h3]
  exact h.app q _
/-- A new store. -/
theorem create_gd {D : Dp.Dk} {k : Nat} (h : Bd D k) (hk : k + 6 ≤ 10 * 1) (he : (createT D).2 = 0) : Gd (createT D).1 1 := by
  have b1 := bd_create h (segN 0)
  unfold createT at he ⊢
  split
  · rename_i hc
    rw [if_pos hc] at he
    exact absurd he hc
  · rename_i hc
    rw [if_neg hc] at he
    have b2 := bd_swap b1 (man ⟨(Dp.create D (segN 0)).1, 1, [⟨0, 0, 0⟩], 0, 0, 0, 0⟩)
    dsimp only at he ⊢
    split
    · rename_i hw
      rw [if_pos hw] at he
      exact absurd he hw
    · exact ⟨b2.mono (by omega), ⟨show (0 : Int) ≤ 1 by decide, show (1 : Int) ≤ ((1 : Nat) : Int) by decide⟩, show 1 ≤ 1 by decide, by simp, fun g hg => by
        obtain rfl : g = ⟨0, 0, 0⟩ := by simpa using hg
        exact ⟨⟨show (0 : Int) ≤ 0 by decide, show (0 : Int) ≤ ((1 : Nat) : Int) by decide⟩, ⟨show (0 : Int) ≤ 0 by decide, show (0 : Int) ≤ ((1 : Nat) : Int) by decide⟩, show (0 : Int) ≤ 0 by decide, show (0 : Int) ≤ 100 * ((1 : Nat) : Int) by decide⟩, ⟨show (0 : Int) ≤ 0 by decide, show (0 : Int) ≤ ((1 : Nat) : Int) by decide⟩, ⟨show (0 : Int) ≤ 0 by decide, show (0 : Int) ≤ ((1 : Nat) : Int) by decide⟩, rfl, rfl⟩

end Go.Proofs.Ythhhocgpoenigaa.Sto

namespace Go.Proofs.Ythhhocgpoenigaa
open Go.RowKit

/-- What Get answers of a body. -/
def getVal (l : List UInt8) : Value := .tuple #[recVal (Rp.get l).1, .int .i64 (Rp.get l).2]
theorem getVal_no {l : List UInt8} {e : Int} (h : Rp.get l = (Rp.zero, e)) : getVal l = .tuple #[.agg #[.int .i64 0, .int .i64 0, .string ⟨#[]⟩], .int .i64 e] := by
  unfold getVal
  rw [h]
  rfl
theorem getVal_yes {l : List UInt8} {r : Rp.Rec} (h : Rp.get l = (r, 0)) : getVal l = .tuple #[recVal r, .int .i64 0] := by
  unfold getVal
  rw [h]

end Go.Proofs.Ythhhocgpoenigaa

namespace Go.Proofs.Ythhhocgpoenigaa
open Go.RowKit

theorem made_func (fn : Fn) (first cap : Array Value) (w : World) : (Instr.makeFunc fn first cap).run Try.prog w = .ok (.func fn first cap) w := rfl
/-- What record's Get has laid: the text, the result's cells, the place. -/
structure GB (w : World) (s : ByteArray) (i : Int) (W : World) : Prop where
  h0 : W.heap[w.heap.size]? = some (.cells #[.string s] 9 (0, 0))
  h1 : W.heap[w.heap.size + 1]? = some (.cells #[.int .i64 0, .int .i64 0, .string ⟨#[]⟩] 40 (0, 0))
  h2 : W.heap[w.heap.size + 1 + 1]? = some (.cells #[.int .i64 i] 3 (0, 0))
  b : Below w.heap.size w W
theorem GB.lt {w W : World} {s : ByteArray} {i : Int} (h : GB w s i W) : w.heap.size + 1 + 1 < W.heap.size := by
  rcases Nat.lt_or_ge (w.heap.size + 1 + 1) W.heap.size with h' | h'
  · exact h'
  · have := h.h2
    simp [Array.getElem?_eq_none h'] at this
theorem heap_alloc_lt {w : World} {o : Obj} {k : Nat} {x : Obj} (h : w.heap[k]? = some x) : (w.alloc o).heap[k]? = some x := by
  rw [Lib.alloc_old w o k (by
    rcases Nat.lt_or_ge k w.heap.size with h' | h'
    · exact h'
    · simp [Array.getElem?_eq_none h'] at h)]
  exact h
theorem GB.new (w : World) (s : ByteArray) : GB w s 0 (((w.alloc (.cells #[.string s] 9)).alloc (.cells #[.int .i64 0, .int .i64 0, .string ⟨#[]⟩] 40)).alloc (.cells #[.int .i64 0] 3)) := by
  refine ⟨heap_alloc_lt (heap_alloc_lt (heap_alloc_new w _)), ?_, ?_, ((((Below.refl _ _).alloc (Nat.le_refl _) _).alloc (by simp) _).alloc (by simp; omega) _)⟩
  · refine heap_alloc_lt ?_
    have := heap_alloc_new (w.alloc (.cells #[.string s] 9)) (.cells #[.int .i64 0, .int .i64 0, .string ⟨#[]⟩] 40)
    simpa using this
  · have := heap_alloc_new ((w.alloc (.cells #[.string s] 9)).alloc (.cells #[.int .i64 0, .int .i64 0, .string ⟨#[]⟩] 40)) (.cells #[.int .i64 0] 3)
    simpa using this
theorem GB.step {w W : World} {s : ByteArray} {i : Int} (h : GB w s i W) (k : Nat) (x : Int) : GB w s x ((W.drewN k).setCell ⟨w.heap.size + 1 + 1, 0, none⟩ (.int .i64 x)) := by
  refine ⟨?_, ?_, heap_setCell_same (W.drewN k) (w.heap.size + 1 + 1) 0 #[.int .i64 i] 3 (.int .i64 x) h.h2, (h.b.trans ((below_drewN k).mono h.b.size)).setCell (p := ⟨w.heap.size + 1 + 1, 0, none⟩) (by show w.heap.size ≤ w.heap.size + 1 + 1; omega) _⟩
  · rw [heap_setCell_other _ _ _ _ (by show w.heap.size ≠ w.heap.size + 1 + 1; omega)]; exact h.h0
  · rw [heap_setCell_other _ _ _ _ (by show w.heap.size + 1 ≠ w.heap.size + 1 + 1; omega)]; exact h.h1
theorem GB.below {w W W' : World} {s : ByteArray} {i : Int} (h : GB w s i W) (b : Below W.heap.size W W') : GB w s i W' := by
  have hl := h.lt
  refine ⟨?_, ?_, ?_, h.b.trans (b.mono h.b.size)⟩
  · rw [b.block _ (by omega)]; exact h.h0
  · rw [b.block _ (by omega)]; exact h.h1
  · rw [b.block _ (by omega)]; exact h.h2
theorem GB.c0 {w W : World} {s : ByteArray} {i : Int} (h : GB w s i W) : W.cell? ⟨w.heap.size, 0, none⟩ = some (.string s) := by rw [Lib.cell_of_heap h.h0]; rfl
theorem GB.c2 {w W : World} {s : ByteArray} {i : Int} (h : GB w s i W) : W.cell? ⟨w.heap.size + 1 + 1, 0, none⟩ = some (.int .i64 i) := by rw [Lib.cell_of_heap h.h2]; rfl
theorem GB.f2 {w W : World} {s : ByteArray} {i : Int} (h : GB w s i W) : W.frozen? ⟨w.heap.size + 1 + 1, 0, none⟩ = false := Lib.frozen_of_heap h.h2 0
theorem GB.r {w W : World} {s : ByteArray} {i : Int} (h : GB w s i W) : W.cell? ⟨w.heap.size + 1, 0, none⟩ = some (.int .i64 0) ∧ W.cell? ⟨w.heap.size + 1, 1, none⟩ = some (.int .i64 0) ∧ W.cell? ⟨w.heap.size + 1, 2, none⟩ = some (.string ⟨#[]⟩) :=
  ⟨by rw [Lib.cell_of_heap h.h1]; rfl, by rw [Lib.cell_of_heap h.h1]; rfl, by rw [Lib.cell_of_heap h.h1]; rfl⟩
theorem GB.g {w W : World} {s : ByteArray} {i : Int} (h : GB w s i W) : W.frozen? ⟨w.heap.size + 1, 0, none⟩ = false ∧ W.frozen? ⟨w.heap.size + 1, 1, none⟩ = false ∧ W.frozen? ⟨w.heap.size + 1, 2, none⟩ = false :=
  ⟨Lib.frozen_of_heap h.h1 0, Lib.frozen_of_heap h.h1 1, Lib.frozen_of_heap h.h1 2⟩
theorem GB.set {w W : World} {s : ByteArray} {i : Int} (h : GB w s i W) (x y z : Value) : Below w.heap.size w (((W.setCell ⟨w.heap.size + 1, 0, none⟩ x).setCell ⟨w.heap.size + 1, 1, none⟩ y).setCell ⟨w.heap.size + 1, 2, none⟩ z) :=
  ((h.b.setCell (p := ⟨w.heap.size + 1, 0, none⟩) (Nat.le_succ _) _).setCell (p := ⟨w.heap.size + 1, 1, none⟩) (Nat.le_succ _) _).setCell (p := ⟨w.heap.size + 1, 2, none⟩) (Nat.le_succ _) _

set_option maxRecDepth 100000 in
set_option maxHeartbeats 1600000 in
/-- The closure: it reads the number at the place, and puts the place behind it. -/
theorem clo_any (s : ByteArray) (i n nx : Int) (ok : Bool) (b1 b2 : Nat) (w : World) (hs : s.size ≤ 9223372036854775807)
    (hr : rdAt s i = .tuple #[.int .i64 n, .int .i64 nx, .bool ok])
    (h1 : w.cell? ⟨b1, 0, none⟩ = some (.string s)) (h2 : w.cell? ⟨b2, 0, none⟩ = some (.int .i64 i)) (hf : w.frozen? ⟨b2, 0, none⟩ = false) :
    Calls Try.prog 45 #[.pointer (some ⟨b1, 0, none⟩), .pointer (some ⟨b2, 0, none⟩)] w fun e w' => e = .returned (.tuple #[.int .i64 n, .bool ok]) ∧ ∃ k, w' = (w.drewN k).setCell ⟨b2, 0, none⟩ (.int .i64 nx) := by
  have C := fun W : World => read_any s i W hs
  rw [hr] at C
  have C := Lib.hid C
  clear hr
  go_enter Try.func45, Try.ntmps45
  go_wp2_with fail
  refine (C.out _).mono ?_
  rintro e w1 ⟨rfl, k, rfl⟩
  go_wp2_with fail
  go_ret2
  exact ⟨rfl, k, rfl⟩

set_option maxRecDepth 100000 in
set_option maxHeartbeats 1600000 in
theorem get_none (s : ByteArray) (w : World) (hs : s.size ≤ 9223372036854775807) (ht : Vp.take s.data.toList = none) :
    Calls Try.prog 23 #[.string s] w fun e w' => e = .returned (getVal s.data.toList) ∧ Below w.heap.size w w' := by
  have C := fun b1 b2 (W : World) => clo_any s 0 0 0 false b1 b2 W hs (rdVal_none 0 ht)
  have C := Lib.hid C
  have HV := Lib.hid (getVal_no (Rp.get_none ht))
  have hmf := made_func
  clear ht
  go_enter Try.func23, Try.ntmps23
  go_wp2_with fail
  have G0 := GB.new w s
  refine (C.out _ _ _ G0.c0 G0.c2 G0.f2).mono ?_
  rintro e w1 ⟨rfl, k, rfl⟩
  have G1 := G0.step k 0
  generalize World.setCell _ _ _ = w1 at G1 ⊢
  have HG := Lib.hid G1
  obtain ⟨r0, r1, r2⟩ := G1.r
  obtain ⟨g0, g1, g2⟩ := G1.g
  clear G0 G1
  go_wp2_with fail
  exact bodyPost_ret (v := .tuple #[.agg #[.int .i64 0, .int .i64 0, .string ⟨#[]⟩], .int .i64 3]) (by simp [results, Try.results23, go_sem, r0, r1, r2]) rfl
    ⟨by rw [HV.out], HG.out.set _ _ _⟩

set_option maxRecDepth 100000 in
set_option maxHeartbeats 1600000 in
theorem get_half (s : ByteArray) (w : World) (hs : s.size ≤ 9223372036854775807) (n j : Nat) (ht : Vp.take s.data.toList = some (n, j)) (ht2 : Vp.take (s.data.toList.drop j) = none) :
    Calls Try.prog 23 #[.string s] w fun e w' => e = .returned (getVal s.data.toList) ∧ Below w.heap.size w w' := by
  have C := fun b1 b2 (W : World) => clo_any s 0 n j true b1 b2 W hs (rdAt_some (k := 0) ht (Nat.zero_add j))
  have C := Lib.hid C
  have D := fun b1 b2 (W : World) => clo_any s j 0 0 false b1 b2 W hs (rdAt_none ht2)
  have D := Lib.hid D
  have HV := Lib.hid (getVal_no (Rp.get_half ht ht2))
  have hmf := made_func
  clear ht ht2
  go_enter Try.func23, Try.ntmps23
  go_wp2_with fail
  have G0 := GB.new w s
  refine (C.out _ _ _ G0.c0 G0.c2 G0.f2).mono ?_
  rintro e w1 ⟨rfl, k, rfl⟩
  have G1 := G0.step k j
  generalize World.setCell _ _ _ = w1 at G1 ⊢
  clear G0
  have HG := Lib.hid G1
  clear G1
  go_wp2_with fail
  refine (D.out _ _ _ HG.out.c0 HG.out.c2 HG.out.f2).mono ?_
  rintro e w2 ⟨rfl, k2, rfl⟩
  have G2 := HG.out.step k2 0
  generalize World.setCell _ _ _ = w2 at G2 ⊢
  have HG2 := Lib.hid G2
  obtain ⟨r0, r1, r2⟩ := G2.r
  obtain ⟨g0, g1, g2⟩ := G2.g
  clear G2
  go_wp2_with fail
  exact bodyPost_ret (v := .tuple #[.agg #[.int .i64 0, .int .i64 0, .string ⟨#[]⟩], .int .i64 3]) (by simp [results, Try.results23, go_sem, r0, r1, r2]) rfl
    ⟨by rw [HV.out], HG2.out.set _ _ _⟩

set_option maxRecDepth 100000 in
set_option maxHeartbeats 1600000 in
theorem get_whole (s : ByteArray) (w : World) (hs : s.size ≤ 9223372036854775807) (n j m k : Nat) (ht : Vp.take s.data.toList = some (n, j)) (ht2 : Vp.take (s.data.toList.drop j) = some (m, k)) :
    Calls Try.prog 23 #[.string s] w fun e w' => e = .returned (getVal s.data.toList) ∧ Below w.heap.size w w' := by
  have C := fun b1 b2 (W : World) => clo_any s 0 n j true b1 b2 W hs (rdAt_some (k := 0) ht (Nat.zero_add j))
  have C := Lib.hid C
  obtain ⟨q, hq⟩ : ∃ q, j + k = q := ⟨_, rfl⟩
  have D := fun b1 b2 (W : World) => clo_any s j m q true b1 b2 W hs (rdAt_some ht2 hq)
  have D := Lib.hid D
  have hjl := (Vp.take_some ht).2.2.1
  have hkl := (Vp.take_some ht2).2.2.1
  rw [List.length_drop] at hkl
  rw [show s.data.toList.length = s.size from rfl] at hjl hkl
  have q0 : (0 : Int) ≤ (q : Int) := by omega
  have q1 : (q : Int) ≤ (s.size : Int) := by omega
  have E := fun W : World => fault_any ⟨(n : Int), (m : Int), s.extract q s.size⟩ W (by show (s.extract q s.size).size ≤ _; rw [ByteArray.size_extract]; omega)
  have hG := @Rp.get_bad s.data.toList n j m k ht ht2
  have hY := @Rp.get_yes s.data.toList n j m k ht ht2
  rw [hq, ext_drop] at hG hY
  clear ht ht2 hq hjl hkl
  unfold recVal at E
  dsimp only at E
  have hmf := made_func
  rcases Rp.fault_cases ⟨(n : Int), (m : Int), s.extract q s.size⟩ with ⟨hf0, _⟩ | ⟨_, hf0⟩
  · have HV := Lib.hid (getVal_yes (hY hf0))
    rw [hf0] at E
    have E := Lib.hid E
    clear hf0 hG hY
    go_enter Try.func23, Try.ntmps23
    go_wp2_with fail
    have G0 := GB.new w s
    refine (C.out _ _ _ G0.c0 G0.c2 G0.f2).mono ?_
    rintro e w1 ⟨rfl, k1, rfl⟩
    have G1 := G0.step k1 j
    generalize World.setCell _ _ _ = w1 at G1 ⊢
    clear G0
    have HG := Lib.hid G1
    clear G1
    go_wp2_with fail
    refine (D.out _ _ _ HG.out.c0 HG.out.c2 HG.out.f2).mono ?_
    rintro e w2 ⟨rfl, k2, rfl⟩
    have G2 := HG.out.step k2 q
    generalize World.setCell _ _ _ = w2 at G2 ⊢
    have HG2 := Lib.hid G2
    have x0 := G2.c0
    have x2 := G2.c2
    clear G2
    go_wp2_with fail
    refine (E.out _).mono ?_
    rintro e w3 ⟨rfl, b3⟩
    obtain ⟨y0, y1, y2, b23⟩ := box_keep (box_new w2 _ _ _ _) b3
    have G3 := HG2.out.below b23
    have HG3 := Lib.hid G3
    obtain ⟨r0, r1, r2⟩ := G3.r
    obtain ⟨g0, g1, g2⟩ := G3.g
    clear G3
    go_wp2_with fail
    exact bodyPost_ret (v := .tuple #[.agg #[.int .i64 (n : Int), .int .i64 (m : Int), .string (s.extract q s.size)], .int .i64 0]) (by simp [results, Try.results23, go_sem, r0, r1, r2]) rfl
      ⟨by rw [HV.out]; rfl, HG3.out.set _ _ _⟩
  · obtain ⟨e0, he0⟩ : ∃ e0, Rp.fault ⟨(n : Int), (m : Int), s.extract q s.size⟩ = e0 := ⟨_, rfl⟩
    rw [he0] at E hf0 hG
    have HV := Lib.hid (getVal_no (hG (by omega)))
    have E := Lib.hid E
    clear hG hY he0
    rcases hf0 with rfl | rfl
    all_goals
      go_enter Try.func23, Try.ntmps23
      go_wp2_with fail
      have G0 := GB.new w s
      refine (C.out _ _ _ G0.c0 G0.c2 G0.f2).mono ?_
      rintro e w1 ⟨rfl, k1, rfl⟩
      have G1 := G0.step k1 j
      generalize World.setCell _ _ _ = w1 at G1 ⊢
      clear G0
      have HG := Lib.hid G1
      clear G1
      go_wp2_with fail
      refine (D.out _ _ _ HG.out.c0 HG.out.c2 HG.out.f2).mono ?_
      rintro e w2 ⟨rfl, k2, rfl⟩
      have G2 := HG.out.step k2 q
      generalize World.setCell _ _ _ = w2 at G2 ⊢
      have HG2 := Lib.hid G2
      have x0 := G2.c0
      have x2 := G2.c2
      clear G2
      go_wp2_with fail
      refine (E.out _).mono ?_
      rintro e w3 ⟨rfl, b3⟩
      have G3 := HG2.out.below (bel_of_alloc b3)
      have HG3 := Lib.hid G3
      obtain ⟨r0, r1, r2⟩ := G3.r
      obtain ⟨g0, g1, g2⟩ := G3.g
      clear G3
      go_wp2_with fail
      refine bodyPost_ret (v := .tuple #[.agg #[.int .i64 0, .int .i64 0, .string ⟨#[]⟩], .int .i64 _]) (by simp [results, Try.results23, go_sem, r0, r1, r2]; rfl) rfl
        ⟨by rw [HV.out], HG3.out.set _ _ _⟩

/-- record's Get, at any body. -/
theorem get_any (s : ByteArray) (w : World) (hs : s.size ≤ 9223372036854775807) :
    Calls Try.prog 23 #[.string s] w fun e w' => e = .returned (getVal s.data.toList) ∧ Below w.heap.size w w' := by
  rcases ht : Vp.take s.data.toList with _ | ⟨n, j⟩
  · exact get_none s w hs ht
  rcases ht2 : Vp.take (s.data.toList.drop j) with _ | ⟨m, k⟩
  · exact get_half s w hs n j ht ht2
  · exact get_whole s w hs n j m k ht ht2

end Go.Proofs.Ythhhocgpoenigaa

namespace Go.Proofs.Ythhhocgpoenigaa
open Go.RowKit Go.ChangeShapes Go.WideShapes Go.Deep Go.Joins

/-- The value v is a slice whose elements are these records. -/
def IsRecs (w : World) (v : Value) (rs : List Rp.Rec) : Prop :=
  ∃ a cap, v = .slice a rs.length cap ∧ rs.length ≤ maxLen ∧ (∀ r ∈ rs, RecOk r) ∧
    (rs = [] ∨ ∃ b off, a = some ⟨b, off, none⟩ ∧ ∀ i, i < rs.length →
      w.cell? ⟨b, off + i * 3, none⟩ = some (.int .i64 (rs.getD i Rp.zero).a) ∧ w.cell? ⟨b, off + i * 3 + 1, none⟩ = some (.int .i64 (rs.getD i Rp.zero).t) ∧ w.cell? ⟨b, off + i * 3 + 2, none⟩ = some (.string (rs.getD i Rp.zero).d))
theorem IsRecs.below {B : Nat} {w w' : World} {v : Value} {rs : List Rp.Rec} (h : IsRecs w v rs) (hb : Below B w w') (hB : w.heap.size ≤ B) : IsRecs w' v rs := by
  obtain ⟨a, cap, rfl, h1, h2, h3⟩ := h
  refine ⟨a, cap, rfl, h1, h2, ?_⟩
  rcases h3 with h3 | ⟨b, off, rfl, h4⟩
  · exact .inl h3
  · refine .inr ⟨b, off, rfl, fun i hi => ?_⟩
    obtain ⟨c0, c1, c2⟩ := h4 i hi
    have hl := Nat.lt_of_lt_of_le (block_lt_of_cell c0) hB
    exact ⟨(hb.cell (p := ⟨b, off + i * 3, none⟩) hl).trans c0, (hb.cell (p := ⟨b, off + i * 3 + 1, none⟩) hl).trans c1, (hb.cell (p := ⟨b, off + i * 3 + 2, none⟩) hl).trans c2⟩
theorem IsRecs.nil (w : World) (a : Option Addr) (cap : Nat) : IsRecs w (.slice a 0 cap) [] := ⟨a, cap, rfl, by simp, by simp, .inl rfl⟩

section
variable {H : Type} {enc : TypeId × Value → H} {w : World} {base : Nat} {spare : Nat → Bool} {held : Bool}

theorem add_plain (b off j : Nat) : (⟨b, off, none⟩ : Addr).add j = ⟨b, off + j, none⟩ := by
  unfold Addr.add
  split <;> simp_all

end

section
variable {H : Type} {enc : TypeId × Value → H} {w : World} {base : Nat} {spare : Nat → Bool} {held : Bool}
end

/-- The records up to a place, and from it on. -/
theorem IsRecs.take {w : World} {a : Option Addr} {n cap k : Nat} {rs : List Rp.Rec} (h : IsRecs w (.slice a n cap) rs) (hk : k ≤ n) : IsRecs w (.slice a k cap) (rs.take k) := by
  obtain ⟨a', cap', e, h1, h2, h3⟩ := h
  injection e with e1 e2 e3
  subst e1 e2 e3
  have hl : (rs.take k).length = k := by rw [List.length_take]; omega
  refine ⟨a, cap, by rw [hl], by omega, fun r hr => h2 r (List.mem_of_mem_take hr), ?_⟩
  rcases h3 with rfl | ⟨b, off, rfl, h4⟩
  · exact .inl (by simp)
  · refine .inr ⟨b, off, rfl, fun i hi => ?_⟩
    rw [hl] at hi
    have e : (rs.take k).getD i Rp.zero = rs.getD i Rp.zero := by simp [List.getD_eq_getElem?_getD, hi]
    rw [e]
    exact h4 i (by omega)
theorem IsRecs.drop {w : World} {b off n cap k : Nat} {rs : List Rp.Rec} (h : IsRecs w (.slice (some ⟨b, off, none⟩) n cap) rs) (hk : k ≤ n) (hc : n ≤ cap) : IsRecs w (.slice (if cap = k then some ⟨b, off, none⟩ else some ⟨b, off + k * 3, none⟩) (n - k) (cap - k)) (rs.drop k) := by
  obtain ⟨a', cap', e, h1, h2, h3⟩ := h
  injection e with e1 e2 e3
  subst e1 e2 e3
  have hl : (rs.drop k).length = rs.length - k := by rw [List.length_drop]
  refine ⟨_, cap - k, by rw [hl], by omega, fun r hr => h2 r (List.mem_of_mem_drop hr), ?_⟩
  rcases Nat.lt_or_ge k rs.length with hlt | hge
  · rw [if_neg (by omega)]
    rcases h3 with rfl | ⟨b', off', e, h4⟩
    · simp at hlt
    · injection e with e
      injection e with e1 e2
      subst e1 e2
      refine .inr ⟨b, off + k * 3, rfl, fun i hi => ?_⟩
      rw [hl] at hi
      have e : (rs.drop k).getD i Rp.zero = rs.getD (k + i) Rp.zero := by simp [List.getD_eq_getElem?_getD, List.getElem?_drop]
      rw [e]
      have := h4 (k + i) (by omega)
      rw [show off + (k + i) * 3 = off + k * 3 + i * 3 by omega] at this
      exact this
  · exact .inl (List.drop_eq_nil_of_le hge)

end Go.Proofs.Ythhhocgpoenigaa

namespace Go.Proofs.Ythhhocgpoenigaa
open Go.RowKit

/-- Records as cells. -/
def recVals (rs : List Rp.Rec) : List Value := rs.flatMap fun r => [.int .i64 r.a, .int .i64 r.t, .string r.d]
theorem recVals_len (rs : List Rp.Rec) : (recVals rs).length = rs.length * 3 := by
  induction rs with
  | nil => rfl
  | cons r rs ih => simp [recVals] at ih ⊢; omega
theorem recVals_snoc (rs : List Rp.Rec) (r : Rp.Rec) : recVals (rs ++ [r]) = recVals rs ++ [.int .i64 r.a, .int .i64 r.t, .string r.d] := by simp [recVals]
theorem recVals_get (rs : List Rp.Rec) : ∀ i, i < rs.length → (recVals rs)[i * 3]? = some (.int .i64 (rs.getD i Rp.zero).a) ∧ (recVals rs)[i * 3 + 1]? = some (.int .i64 (rs.getD i Rp.zero).t) ∧ (recVals rs)[i * 3 + 2]? = some (.string (rs.getD i Rp.zero).d) := by
  induction rs with
  | nil => intro i hi; simp at hi
  | cons r rs ih =>
    intro i hi
    have e : recVals (r :: rs) = .int .i64 r.a :: .int .i64 r.t :: .string r.d :: recVals rs := rfl
    rw [e]
    cases i with
    | zero => exact ⟨rfl, rfl, rfl⟩
    | succ i =>
      have h := ih i (by simpa using hi)
      rw [show (i + 1) * 3 = i * 3 + 3 from by omega]
      simpa using h
theorem info_rec : (Try.prog.info? 40).map (fun i => (i.zero, i.size, i.bytes)) = some (some (.agg #[.int .i64 0, .int .i64 0, .string ByteArray.empty]), 3, 32) := by kernel_rfl
theorem RecOk.of {r : Rp.Rec} (h : Rp.Ok r) : RecOk r := ⟨by have := h.1; omega, by have := h.2.1; omega, by have := h.2.2.1; omega, by have := h.2.2.2.1; omega, by have := h.2.2.2.2; omega⟩
theorem IsRecs.own_ok {w : World} {base n : Nat} {v : Value} {rs : List Rp.Rec} (h : w.ownsRow base 40 3 v n (recVals rs)) (hm : n ≤ maxLen) (hb : ∀ r ∈ rs, RecOk r) : IsRecs w v rs := by
  have hn : n = rs.length := by have := h.1; rw [recVals_len] at this; omega
  subst hn
  rcases h.2 with ⟨rfl, h0⟩ | ⟨g, cap, cur, rfl, h1⟩
  · have : rs = [] := by simpa using h0
    subst this
    exact IsRecs.nil w none 0
  · refine ⟨some ⟨g, 0, none⟩, cap, rfl, hm, hb, .inr ⟨g, 0, rfl, fun i hi => ?_⟩⟩
    obtain ⟨c0, c1, c2⟩ := recVals_get rs i hi
    have k0 := h.cells (g := g) rfl _ _ c0
    have k1 := h.cells (g := g) rfl _ _ c1
    have k2 := h.cells (g := g) rfl _ _ c2
    rw [add_plain] at k0 k1 k2
    exact ⟨k0, k1, k2⟩
theorem IsRecs.own {w : World} {base n : Nat} {v : Value} {rs : List Rp.Rec} (h : w.ownsRow base 40 3 v n (recVals rs)) (hm : n ≤ maxLen) (hb : ∀ r ∈ rs, Rp.Ok r) : IsRecs w v rs := IsRecs.own_ok h hm fun r hr => RecOk.of (hb r hr)

end Go.Proofs.Ythhhocgpoenigaa

namespace Go.Proofs.Ythhhocgpoenigaa
open Go.RowKit

/-- Texts as strings. -/
def strs (bs : List (List UInt8)) : List ByteArray := bs.map fun b => ⟨b.toArray⟩
/-- Texts as cells. -/
def strVals (bs : List (List UInt8)) : List Value := bs.map fun b => .string ⟨b.toArray⟩
theorem strVals_len (bs : List (List UInt8)) : (strVals bs).length = bs.length := by simp [strVals]
theorem strs_len (bs : List (List UInt8)) : (strs bs).length = bs.length := by simp [strs]

theorem IsStrs.own {w : World} {base n : Nat} {v : Value} {bs : List (List UInt8)} (h : w.ownsRow base 9 1 v n (strVals bs)) (hm : n ≤ maxLen) (hb : ∀ b ∈ bs, b.length ≤ maxLen) : IsStrs w v (strs bs) := by
  have hn : n = bs.length := by have := h.1; rw [strVals_len] at this; omega
  subst hn
  have hs : ∀ s ∈ strs bs, s.size ≤ maxLen := by
    intro s hs
    unfold strs at hs
    rw [List.mem_map] at hs
    obtain ⟨b, hb1, rfl⟩ := hs
    rw [size_mk_list]
    exact hb b hb1
  rcases h.2 with ⟨rfl, h0⟩ | ⟨g, cap, cur, rfl, h1⟩
  · have : bs = [] := by simpa [strVals] using h0
    subst this
    exact IsStrs.nil w none 0
  · refine ⟨some ⟨g, 0, none⟩, cap, by rw [strs_len], by rw [strs_len]; exact hm, hs, .inr ⟨g, 0, rfl, fun i hi => ?_⟩⟩
    rw [strs_len] at hi
    have hc := h.cells (g := g) rfl i (.string ⟨bs[i].toArray⟩) (by simp [strVals, hi])
    have e : (⟨g, 0, none⟩ : Addr).add i = ⟨g, 0 + i, none⟩ := by unfold Addr.add; split <;> simp_all
    rw [e] at hc
    rw [hc]
    simp [strs, List.getD_eq_getElem?_getD, hi]

/-- What All answers: the bodies, how far they go, why there is no more. -/
def AllOut (w : World) (l : List UInt8) (e : Ending) (w' : World) : Prop :=
  ∃ v, e = .returned (.tuple #[v, .int .i64 ((Fr.all l).2.1 : Nat), .int .i64 ((Fr.all l).2.2 : Nat)]) ∧ IsStrs w' v (strs (Fr.all l).1) ∧ Below w.heap.size w w'
theorem AllOut.mk {w w' : World} {l : List UInt8} {bs : List (List UInt8)} {k er : Nat} {v : Value} (h : Fr.all l = (bs, k, er)) (hv : IsStrs w' v (strs bs)) (hb : Below w.heap.size w w') :
    AllOut w l (.returned (.tuple #[v, .int .i64 (k : Int), .int .i64 (er : Int)])) w' := by
  unfold AllOut
  rw [h]
  exact ⟨v, rfl, hv, hb⟩

end Go.Proofs.Ythhhocgpoenigaa

namespace Go.Proofs.Ythhhocgpoenigaa
open Go.RowKit

/-- What Rows answers: the records, how far they go, why there is no more. -/
def RowsOut (w : World) (l : List UInt8) (e : Ending) (w' : World) : Prop :=
  ∃ v, e = .returned (.tuple #[v, .int .i64 ((Rp.rows l).2.1 : Nat), .int .i64 (Rp.rows l).2.2]) ∧ IsRecs w' v (Rp.rows l).1 ∧ Below w.heap.size w w'
theorem RowsOut.mk {w w' : World} {l : List UInt8} {rs : List Rp.Rec} {k : Nat} {er : Int} {v : Value} (h : Rp.rows l = (rs, k, er)) (hv : IsRecs w' v rs) (hb : Below w.heap.size w w') :
    RowsOut w l (.returned (.tuple #[v, .int .i64 (k : Int), .int .i64 er])) w' := by
  unfold RowsOut
  rw [h]
  exact ⟨v, rfl, hv, hb⟩

end Go.Proofs.Ythhhocgpoenigaa

namespace Go.Proofs.Ythhhocgpoenigaa
open Go.RowKit

/-- How numbers lie in memory. -/
def NL : Lay Nat where
  enc := fun n => [.int .i64 (n : Int)]
  k := 1
  len := fun _ => rfl
  one := by intro f u hu; rw [List.mem_singleton] at hu; subst hu; rfl
  pos := by decide
  T := 3
  ok := fun n => n ≤ 9223372036854775807
  z := 0
theorem own_slice {w : World} {B : Nat} {e : TypeId} {k n : Nat} {v : Value} {xs : List Value} (h : w.ownsRow B e k v n xs) : ∃ a c, v = .slice a n c := by
  rcases h.2 with ⟨rfl, rfl⟩ | ⟨g, cap, cur, rfl, _⟩
  · exact ⟨none, 0, rfl⟩
  · exact ⟨_, _, rfl⟩

/-- What Places answers. -/
def PlacesOut (w : World) (F : List (Rp.Rec × Nat) × Nat × Int) (e : Ending) (w' : World) : Prop :=
  ∃ v vp, e = .returned (.tuple #[v, vp, .int .i64 (F.2.1 : Nat), .int .i64 F.2.2]) ∧ IsRecs w' v (F.1.map Prod.fst) ∧ IsL NL w' vp (F.1.map Prod.snd) ∧ Below w.heap.size w w'
theorem PlacesOut.mk {w w' : World} {F : List (Rp.Rec × Nat) × Nat × Int} {ps : List (Rp.Rec × Nat)} {k : Nat} {er : Int} {v vp : Value} (h : F = (ps, k, er)) (hv : IsRecs w' v (ps.map Prod.fst)) (hp : IsL NL w' vp (ps.map Prod.snd)) (hb : Below w.heap.size w w') :
    PlacesOut w F (.returned (.tuple #[v, vp, .int .i64 (k : Int), .int .i64 er])) w' := by
  subst h
  exact ⟨v, vp, rfl, hv, hp, hb⟩

/-- What both Scans answer. -/
def ScanOut (w : World) (F : List (Rp.Rec × Nat) × Nat × Int) (e : Ending) (w' : World) : Prop :=
  ∃ v, e = .returned (.tuple #[v, .int .i64 (F.2.1 : Nat), .int .i64 F.2.2]) ∧ IsRecs w' v (F.1.map Prod.fst) ∧ Below w.heap.size w w'

end Go.Proofs.Ythhhocgpoenigaa

namespace Go.Proofs.Ythhhocgpoenigaa
open Go.RowKit

theorem frozenK {W : World} {k : Nat} {T : TypeId} {cs : Array Value} (h : W.heap[k]? = some (.cells cs T (0, 0))) : W.frozen? ⟨k, 0, none⟩ = false ∧ W.frozen? ⟨k, 1, none⟩ = false ∧ W.frozen? ⟨k, 2, none⟩ = false := by
  refine ⟨?_, ?_, ?_⟩ <;> (unfold World.frozen?; rw [h]; rfl)
theorem cells3 {W : World} {k : Nat} {T : TypeId} {x y z : Value} (h : W.heap[k]? = some (.cells #[x, y, z] T (0, 0))) : W.cell? ⟨k, 0, none⟩ = some x ∧ W.cell? ⟨k, 1, none⟩ = some y ∧ W.cell? ⟨k, 2, none⟩ = some z :=
  ⟨by rw [cell_of_row _ _ 0 _ _ _ h]; rfl, by rw [cell_of_row _ _ 1 _ _ _ h]; rfl, by rw [cell_of_row _ _ 2 _ _ _ h]; rfl⟩
theorem bel_st3 {base k : Nat} {w W : World} (h : Below base w W) (hk : base ≤ k) (x y z : Value) : Below base w (((W.setCell ⟨k, 0, none⟩ x).setCell ⟨k, 1, none⟩ y).setCell ⟨k, 2, none⟩ z) :=
  ((h.setCell (p := ⟨k, 0, none⟩) hk x).setCell (p := ⟨k, 1, none⟩) hk y).setCell (p := ⟨k, 2, none⟩) hk z

end Go.Proofs.Ythhhocgpoenigaa

namespace Go.Proofs.Ythhhocgpoenigaa.Sto
open Go.RowKit Go.Proofs.Ythhhocgpoenigaa.So Go.Proofs.Ythhhocgpoenigaa.Dsk Go.Proofs.Ythhhocgpoenigaa.Rts

section
variable {f : Rt.Sg → List Rp.Rec} {l : List Rt.Sg} {o : Int}
/-- No record of the first segments has that offset. -/
def NoneTo (f : Rt.Sg → List Rp.Rec) (l : List Rt.Sg) (o : Int) (i : Nat) : Prop := ∀ g ∈ l.take i, ∀ r ∈ f g, r.a ≠ o
def NoneIn (rs : List Rp.Rec) (o : Int) (k : Nat) : Prop := ∀ r ∈ rs.take k, r.a ≠ o
theorem NoneTo.all {i : Nat} (h : NoneTo f l o i) (hi : l.length ≤ i) : (l.flatMap f).find? (fun r => decide (r.a = o)) = none := by
  rw [List.find?_eq_none]
  intro r hr
  rw [List.mem_flatMap] at hr
  obtain ⟨g, hg, hr⟩ := hr
  simpa using h g (by rw [List.take_of_length_le hi]; exact hg) r hr
theorem NoneTo.hit {i k : Nat} (h : NoneTo f l o i) (hi : i < l.length) (h2 : NoneIn (f (l.getD i Rt.zero)) o k) (hk : k < (f (l.getD i Rt.zero)).length) (h3 : ((f (l.getD i Rt.zero)).getD k Rp.zero).a = o) :
    (l.flatMap f).find? (fun r => decide (r.a = o)) = some ((f (l.getD i Rt.zero)).getD k Rp.zero) := by
  have e1 : l = l.take i ++ l.getD i Rt.zero :: l.drop (i + 1) := by
    rw [getD_lt hi, List.getElem_cons_drop, List.take_append_drop]
  have e2 : f (l.getD i Rt.zero) = (f (l.getD i Rt.zero)).take k ++ (f (l.getD i Rt.zero)).getD k Rp.zero :: (f (l.getD i Rt.zero)).drop (k + 1) := by
    rw [getD_lt hk, List.getElem_cons_drop, List.take_append_drop]
  have n1 : ((l.take i).flatMap f).find? (fun r => decide (r.a = o)) = none := by
    rw [List.find?_eq_none]
    intro r hr
    rw [List.mem_flatMap] at hr
    obtain ⟨g, hg, hr⟩ := hr
    simpa using h g hg r hr
  have n2 : ((f (l.getD i Rt.zero)).take k).find? (fun r => decide (r.a = o)) = none := by
    rw [List.find?_eq_none]
    intro r hr
    simpa using h2 r hr
  generalize hG : l.getD i Rt.zero = G at *
  generalize hR : (f G).getD k Rp.zero = R at *
  rw [e1, List.flatMap_append, List.find?_append, n1, List.flatMap_cons, List.find?_append, e2, List.find?_append, n2]
  simp [h3]
end
theorem read_lo {S : St} {o : Int} (h : o < 0 ∨ S.x ≤ o) : readT S o = (Rp.zero, 6) := by unfold readT; rw [if_pos h]

/-- What Read answers. -/
def RdVal (R : Rp.Rec × Int) : Value := .tuple #[recVal R.1, .int .i64 R.2]

end Go.Proofs.Ythhhocgpoenigaa.Sto

namespace Go.Proofs.Ythhhocgpoenigaa.Sto
open Go.RowKit Go.Proofs.Ythhhocgpoenigaa.So Go.Proofs.Ythhhocgpoenigaa.Dsk Go.Proofs.Ythhhocgpoenigaa.Rts

/-- The records from k on, of so many bytes in all, so many in all. -/
def fromF (S : St) (bytes most : Int) : Nat → Int → Int → Nat → List Rp.Rec
  | 0, _, _, _ => []
  | j + 1, k, n, len => if (len : Int) < most then (if bytes < n + ((Rp.putB (readT S k).1).length : Int) then [] else (readT S k).1 :: fromF S bytes most j (k + 1) (n + ((Rp.putB (readT S k).1).length : Int)) (len + 1)) else []
theorem fromF_succ (S : St) (bytes most : Int) (j : Nat) (k n : Int) (len : Nat) : fromF S bytes most (j + 1) k n len = if (len : Int) < most then (if bytes < n + ((Rp.putB (readT S k).1).length : Int) then [] else (readT S k).1 :: fromF S bytes most j (k + 1) (n + ((Rp.putB (readT S k).1).length : Int)) (len + 1)) else [] := rfl
def fromT (S : St) (o bytes most : Int) : List Rp.Rec := if o < floor S then [] else fromF S bytes most (S.s - o).toNat o 0 0
/-- What From answers. -/
def FrOut (w : World) (l : List Rp.Rec) (e : Ending) (w' : World) : Prop := ∃ v, e = .returned v ∧ IsRecs w' v l ∧ Below w.heap.size w w'
theorem FrOut.mk {w w' : World} {l rs : List Rp.Rec} {v : Value} (h : l = rs) (hr : IsRecs w' v rs) (b : Below w.heap.size w w') : FrOut w l (.returned v) w' := ⟨v, rfl, by rw [h]; exact hr, b⟩

theorem info_rec12 : (Try.prog.info? 40).map (fun i => (i.zero, i.size, i.bytes)) = some (some (.agg #[.int .i64 0, .int .i64 0, .string ByteArray.empty]), 3, 32) := by kernel_rfl

end Go.Proofs.Ythhhocgpoenigaa.Sto
