/-
  Parts of what the laws of this seat stand on: StoPlain, StoRead, StoVal.
-/
import Derived.Test.YthhhocgpoenigaaGreatBu6
import Derived.Test.YthhhocgpoenigaaGreatBu7
import Derived.Test.YthhhocgpoenigaaGreatBu8
namespace Go.Proofs.YthhhocgpoenigaaGreat.So
open Go.Proofs.YthhhocgpoenigaaGreat.Dp

/-- A store: a disk, a version, segments, the next offset, what is sure, its snapshot's size and sum. -/
structure St where
  d : Dk
  v : Int
  g : List Rt.Sg
  x : Int
  s : Int
  z : Int
  c : Int
def floor (S : St) : Int := (S.g.headD Rt.zero).b
def man (S : St) : Qm.Mn := ⟨S.v, S.g.map (·.b), S.z, S.c⟩
def lastG (S : St) : Rt.Sg := S.g.getD (S.g.length - 1) Rt.zero
/-- All is sure. -/
def syncT (S : St) : St × Int := ({ S with d := (sync S.d (segN (lastG S).b)).1, s := if (sync S.d (segN (lastG S).b)).2 = 0 then S.x else S.s }, (sync S.d (segN (lastG S).b)).2)
/-- A store with a segment more, on a disk. -/
def more (S : St) (D : Dk) : St := { S with d := D, v := S.v + 1, g := S.g ++ [⟨S.x, 0, 0⟩] }
noncomputable def roll (S : St) : St × Int :=
  if 64 ≤ S.g.length then (S, 9)
  else if (syncT S).2 ≠ 0 then syncT S
  else
    let T := (syncT S).1
    let C := create T.d (segN T.x)
    if C.2 ≠ 0 then ({ T with d := C.1 }, C.2)
    else
      let W := swap C.1 (man (more T C.1))
      if W.2 = 9 then
        let X := delete W.1 (segN T.x)
        ({ T with d := X.1 }, if X.2 = 0 then 9 else X.2)
      else if W.2 ≠ 0 then ({ T with d := W.1 }, W.2)
      else (more T W.1, 0)
/-- The last segment with a record, and so many bytes, more. -/
def grown (g : List Rt.Sg) (n : Nat) : List Rt.Sg := g.set (g.length - 1) ⟨(g.getD (g.length - 1) Rt.zero).b, (g.getD (g.length - 1) Rt.zero).n + 1, (g.getD (g.length - 1) Rt.zero).z + n⟩
/-- A record more, behind the roll. -/
def put (S : St) (r : Rp.Rec) : St × Int :=
  let s := Rp.putB r
  let A := append S.d (segN (lastG S).b) ⟨s.toArray⟩
  if A.2 ≠ 0 then ({ S with d := A.1 }, A.2) else ({ S with d := A.1, g := grown S.g s.length, x := S.x + 1 }, 0)
noncomputable def append (S : St) (q : Int) (r : Rp.Rec) : St × Int :=
  open Classical in
  if ¬ (Rp.Ok r ∧ r.a = S.x) then (S, 1)
  else if 1099511627776 ≤ S.x then (S, 13)
  else if q ≤ (lastG S).z then (if (roll S).2 ≠ 0 then roll S else put (roll S).1 r)
  else put S r
noncomputable def createT (D : Dk) : St × Int :=
  if (create D (segN 0)).2 ≠ 0 then (⟨(create D (segN 0)).1, 0, [], 0, 0, 0, 0⟩, (create D (segN 0)).2)
  else
    let S : St := ⟨(create D (segN 0)).1, 1, [⟨0, 0, 0⟩], 0, 0, 0, 0⟩
    let W := swap S.d (man S)
    if W.2 ≠ 0 then (⟨W.1, 0, [], 0, 0, 0, 0⟩, W.2) else ({ S with d := W.1 }, 0)

/-- Full segments: the records of each stand in its file. -/
def Fulls (D : Dk) (q : Int) : List Rt.Sg → Int → List Rp.Rec → Prop
  | [], _, rs => rs = []
  | g :: t, b, rs => g.b = b ∧ ∃ l r, rs = l ++ r ∧ l ≠ [] ∧ g.n = (l.length : Int) ∧ dat D (segN b) = some (Rp.rowB l) ∧ g.z = ((Rp.rowB l).length : Int) ∧ q ≤ g.z ∧ g.z ≤ q + 90 ∧ Fulls D q t (b + g.n) r
theorem Fulls.keep {D D' : Dk} {q : Int} : ∀ {t : List Rt.Sg} {b : Int} {rs : List Rp.Rec}, Fulls D q t b rs → (∀ x : Int, b ≤ x → x < b + rs.length → dat D' (segN x) = dat D (segN x)) → Fulls D' q t b rs
  | [], _, _, h, _ => h
  | g :: t, b, rs, ⟨h1, l, r, h2, h3, h4, h5, h6, h7, h8, h9⟩, hk => by
    have hp : 0 < l.length := List.length_pos_iff.2 h3
    subst h2
    rw [List.length_append] at hk
    refine ⟨h1, l, r, rfl, h3, h4, ?_, h6, h7, h8, h9.keep fun x a1 a2 => hk x (by omega) (by omega)⟩
    rw [hk b (Int.le_refl _) (by omega)]
    exact h5
theorem Fulls.snoc {D : Dk} {q : Int} {g : Rt.Sg} {l2 : List Rp.Rec} : ∀ {t : List Rt.Sg} {b : Int} {rs : List Rp.Rec}, Fulls D q t b rs → g.b = b + rs.length → l2 ≠ [] → g.n = (l2.length : Int) → dat D (segN g.b) = some (Rp.rowB l2) → g.z = ((Rp.rowB l2).length : Int) → q ≤ g.z → g.z ≤ q + 90 → Fulls D q (t ++ [g]) b (rs ++ l2)
  | [], b, rs, h, h1, h2, h3, h4, h5, h6, h7 => by
    obtain rfl : rs = [] := h
    have hb : g.b = b := by simpa using h1
    refine ⟨hb, l2, [], by simp, h2, h3, by rw [← hb]; exact h4, h5, h6, h7, rfl⟩
  | a :: t, b, rs, ⟨a1, l, r, a2, a3, a4, a5, a6, a7, a8, a9⟩, h1, h2, h3, h4, h5, h6, h7 => by
    subst a2
    rw [List.length_append] at h1
    exact ⟨a1, l, r ++ l2, by rw [List.append_assoc], a3, a4, a5, a6, a7, a8, a9.snoc (by omega) h2 h3 h4 h5 h6 h7⟩

/-- What is true of a store that began on an empty disk, and of all the records that were appended. -/
structure Inv (q : Int) (S : St) (rs : List Rp.Rec) : Prop where
  dr : Right S.d
  ok : ∀ r ∈ rs, Rp.Ok r
  up : Gp.Rise 0 rs
  x : S.x = (rs.length : Int)
  s0 : 0 ≤ S.s
  s1 : S.s ≤ S.x
  seg : ∃ t g l r, S.g = t ++ [g] ∧ rs = l ++ r ∧ Fulls S.d q t 0 l ∧ g.b = (l.length : Int) ∧ g.n = (r.length : Int) ∧ dat S.d (segN g.b) = some (Rp.rowB r) ∧ g.z = ((Rp.rowB r).length : Int) ∧ g.z ≤ q + 90
theorem getD_last {α : Type} (t : List α) (g z : α) : (t ++ [g]).getD ((t ++ [g]).length - 1) z = g := by
  simp [List.getD_eq_getElem?_getD]
theorem rise_snoc : ∀ (b : Int) (rs : List Rp.Rec) (r : Rp.Rec), Gp.Rise b rs → r.a = b + rs.length → Gp.Rise b (rs ++ [r])
  | b, [], r, _, h => ⟨by simpa using h, trivial⟩
  | b, a :: l, r, h, h2 => ⟨h.1, rise_snoc (b + 1) l r h.2 (by rw [List.length_cons] at h2; omega)⟩
theorem rise_at : ∀ (b : Int) (rs : List Rp.Rec), Gp.Rise b rs → ∀ i (h : i < rs.length), rs[i].a = b + i
  | b, a :: l, h, 0, _ => by simpa using h.1
  | b, a :: l, h, i + 1, hi => by
    have := rise_at (b + 1) l h.2 i (by simpa using hi)
    rw [List.getElem_cons_succ, this]
    omega
theorem Inv.few {q : Int} {S : St} {rs : List Rp.Rec} (h : Inv q S rs) : rs.length ≤ 1099511627777 := by
  rcases Nat.eq_zero_or_pos rs.length with h0 | h0
  · omega
  · have h1 := rise_at 0 rs h.up (rs.length - 1) (by omega)
    have h2 := (h.ok _ (List.getElem_mem (show rs.length - 1 < rs.length by omega))).2.1
    omega
/-- Whatever keeps each segment's file keeps it. -/
theorem Inv.of {q : Int} {S S' : St} {rs : List Rp.Rec} (h : Inv q S rs) (hR : Right S'.d) (hd : ∀ x : Int, 0 ≤ x → x ≤ rs.length → x ≤ 1099511627776 → dat S'.d (segN x) = dat S.d (segN x)) (hg : S'.g = S.g) (hx : S'.x = S.x) (h0 : 0 ≤ S'.s) (h1 : S'.s ≤ S'.x) (hl : rs.length ≤ 1099511627776) : Inv q S' rs := by
  obtain ⟨t, g, l, r, e1, e2, e3, e4, e5, e6, e7, e8⟩ := h.seg
  refine ⟨hR, h.ok, h.up, hx.trans h.x, h0, h1, t, g, l, r, hg.trans e1, e2, ?_, e4, e5, ?_, e7, e8⟩
  · subst e2
    rw [List.length_append] at hd hl
    exact e3.keep fun x a1 a2 => hd x a1 (by omega) (by omega)
  · subst e2
    rw [List.length_append] at hd hl
    rw [hd g.b (by omega) (by omega) (by omega)]
    exact e6
theorem Inv.sync {q : Int} {S : St} {rs : List Rp.Rec} (h : Inv q S rs) (hl : rs.length ≤ 1099511627776) : Inv q (syncT S).1 rs := by
  unfold syncT
  refine h.of (right2 h.dr _) (fun x _ _ _ => sync_dat h.dr _ _) rfl rfl ?_ ?_ hl
  · have := h.s0; have := h.s1; dsimp only; split <;> omega
  · have := h.s0; have := h.s1; dsimp only; split <;> omega
theorem Inv.arm {q : Int} {S : St} {rs : List Rp.Rec} (h : Inv q S rs) (k : Int) (hl : rs.length ≤ 1099511627776) : Inv q { S with d := arm S.d k } rs := h.of (right6 h.dr k) (fun _ _ _ _ => dat_of rfl _) rfl rfl h.s0 h.s1 hl
theorem Inv.limit {q : Int} {S : St} {rs : List Rp.Rec} (h : Inv q S rs) (k : Int) (hl : rs.length ≤ 1099511627776) : Inv q { S with d := limit S.d k } rs := h.of (right7 h.dr k) (fun _ _ _ _ => dat_of rfl _) rfl rfl h.s0 h.s1 hl
theorem Inv.last {q : Int} {S : St} {rs : List Rp.Rec} (h : Inv q S rs) : ∃ t l r, S.g = t ++ [lastG S] ∧ rs = l ++ r ∧ Fulls S.d q t 0 l ∧ (lastG S).b = (l.length : Int) ∧ (lastG S).n = (r.length : Int) ∧ dat S.d (segN (lastG S).b) = some (Rp.rowB r) ∧ (lastG S).z = ((Rp.rowB r).length : Int) ∧ (lastG S).z ≤ q + 90 := by
  obtain ⟨t, g, l, r, e1, e⟩ := h.seg
  have hg : lastG S = g := by unfold lastG; rw [e1]; exact getD_last t g _
  rw [hg]
  exact ⟨t, l, r, e1, e⟩
/-- A roll: the records stay; where it is told OK, there is an empty segment at the end. -/
theorem Inv.roll {q : Int} {S : St} {rs : List Rp.Rec} (h : Inv q S rs) (hq : 0 < q) (hz : q ≤ (lastG S).z) (hl : rs.length ≤ 1099511627776) : Inv q (roll S).1 rs ∧ ((roll S).2 = 0 → (lastG (roll S).1).z = 0) ∧ S.s ≤ (roll S).1.s := by
  have hs1 := h.s1
  have hS := h.sync hl
  have hss : S.s ≤ (syncT S).1.s := by unfold syncT; dsimp only; split <;> omega
  have hgg : (syncT S).1.g = S.g := rfl
  have hxx : (syncT S).1.x = S.x := rfl
  have hlz : lastG (syncT S).1 = lastG S := rfl
  unfold So.roll
  split
  · exact ⟨h, fun e => (by cases e), Int.le_refl _⟩
  split
  · rename_i h1; exact ⟨hS, fun e => absurd e h1, hss⟩
  rw [← hlz] at hz
  generalize (syncT S).1 = T at *
  dsimp only
  obtain ⟨t, l, r, e1, e2, e3, e4, e5, e6, e7, e8⟩ := hS.last
  have hx := hS.x
  have hr0 : r ≠ [] := by
    rintro rfl
    rw [Rp.rowB_nil] at e7
    simp at e7
    omega
  have hrl : 0 < r.length := List.length_pos_iff.2 hr0
  have hlen : rs.length = l.length + r.length := by rw [e2, List.length_append]
  -- the new file's name is none of the segments'
  have hnew : ∀ x : Int, 0 ≤ x → x < T.x → segN x ≠ segN T.x := fun x a1 a2 e => by
    have := segN_inj a1 (by omega) (by omega) (by omega) e
    omega
  have hnn : ∀ x : Int, 0 ≤ x → x ≤ 1099511627776 → segN x ≠ nm ∧ segN x ≠ nn := fun x a b => segN_nm a b
  -- disks on which the segments' files are as they were
  have keep : ∀ D : Dk, Right D → (∀ x : Int, 0 ≤ x → x < T.x → dat D (segN x) = dat T.d (segN x)) → Inv q { T with d := D } rs := fun D hD hd => by
    refine ⟨hD, hS.ok, hS.up, hS.x, hS.s0, hS.s1, t, lastG T, l, r, e1, e2, e3.keep fun x a1 a2 => hd x a1 (by omega), e4, e5, ?_, e7, e8⟩
    rw [hd _ (by omega) (by omega)]
    exact e6
  have hC1 := right0 hS.dr (segN T.x)
  have hCd : ∀ x : Int, 0 ≤ x → x < T.x → dat (create T.d (segN T.x)).1 (segN x) = dat T.d (segN x) := fun x a1 a2 => create_other hS.dr (hnew x a1 a2)
  split
  · rename_i h1; exact ⟨keep _ hC1 hCd, fun e => absurd e h1, hss⟩
  rename_i h1
  have h1 : (create T.d (segN T.x)).2 = 0 := by simpa using h1
  have hnewd : dat (create T.d (segN T.x)).1 (segN T.x) = some [] := by rw [create_ok hS.dr h1, if_pos rfl]
  generalize create T.d (segN T.x) = C at *
  obtain ⟨hW1, hWd⟩ := swap_dat hC1 (man (more T C.1))
  have hWk : ∀ x : Int, 0 ≤ x → x ≤ T.x → dat (swap C.1 (man (more T C.1))).1 (segN x) = dat C.1 (segN x) := fun x a1 a2 => hWd _ (hnn x a1 (by omega)).1 (hnn x a1 (by omega)).2
  generalize swap C.1 (man (more T C.1)) = W at *
  split
  · rename_i h2
    refine ⟨keep _ (right5 hW1 _) fun x a1 a2 => ?_, fun e => ?_, hss⟩
    · rw [delete_other hW1 (hnew x a1 a2), hWk x a1 (by omega), hCd x a1 a2]
    · dsimp only at e
      split at e
      · cases e
      · rename_i h3; exact absurd e h3
  split
  · rename_i h2 h3
    exact ⟨keep _ hW1 fun x a1 a2 => by rw [hWk x a1 (by omega), hCd x a1 a2], fun e => absurd e h3, hss⟩
  · refine ⟨⟨hW1, hS.ok, hS.up, hS.x, hS.s0, hS.s1, t ++ [lastG T], ⟨T.x, 0, 0⟩, rs, [], ?_, by simp, ?_, hS.x, rfl, ?_, rfl, by show (0 : Int) ≤ _; omega⟩, fun _ => ?_, hss⟩
    · show T.g ++ _ = _
      rw [e1]
    · rw [e2]
      refine (e3.keep fun x a1 a2 => ?_).snoc (by rw [e4]; omega) hr0 e5 ?_ e7 hz e8
      · show dat W.1 _ = _
        rw [hWk x a1 (by omega), hCd x a1 (by omega)]
      · show dat W.1 _ = _
        rw [hWk _ (by omega) (by omega), hCd _ (by omega) (by omega)]
        exact e6
    · show dat W.1 (segN T.x) = _
      rw [hWk _ (by omega) (Int.le_refl _), hnewd]
      rfl
    · show (lastG (more T W.1)).z = 0
      unfold lastG more
      dsimp only
      rw [getD_last]

theorem grown_snoc (t : List Rt.Sg) (g : Rt.Sg) (n : Nat) : grown (t ++ [g]) n = t ++ [⟨g.b, g.n + 1, g.z + n⟩] := by
  unfold grown
  rw [getD_last]
  simp
/-- A record more. -/
theorem Inv.put {q : Int} {S : St} {rs : List Rp.Rec} (h : Inv q S rs) (hz : (lastG S).z < q) {r : Rp.Rec} (hr : Rp.Ok r) (ha : r.a = S.x) (hl : S.x < 1099511627776) :
    ((put S r).2 = 0 ∧ Inv q (put S r).1 (rs ++ [r]) ∧ (put S r).1.s = S.s) ∨ ((put S r).2 ≠ 0 ∧ Inv q (put S r).1 rs ∧ (put S r).1.s = S.s) := by
  have hx := h.x
  obtain ⟨t, l, m, e1, e2, e3, e4, e5, e6, e7, e8⟩ := h.last
  have hlen : rs.length = l.length + m.length := by rw [e2, List.length_append]
  have hR1 := right1 h.dr (segN (lastG S).b) ⟨(Rp.putB r).toArray⟩
  have hoth : ∀ x : Int, 0 ≤ x → x < l.length → dat (Dp.append S.d (segN (lastG S).b) ⟨(Rp.putB r).toArray⟩).1 (segN x) = dat S.d (segN x) := fun x a1 a2 => append_other h.dr fun e => by
    have := segN_inj a1 (by omega) (by omega) (by omega) e
    omega
  have hp : Rp.putB r = Fr.fr (Rp.body r) := by unfold Rp.putB; rw [if_pos (Rp.fault_zero hr)]
  unfold So.put
  dsimp only
  by_cases hA : (Dp.append S.d (segN (lastG S).b) ⟨(Rp.putB r).toArray⟩).2 = 0
  · rw [if_neg (by simpa using hA)]
    obtain ⟨o, o1, o2⟩ := append_ok h.dr hA
    rw [e6] at o1
    injection o1 with o1
    subst o1
    generalize Dp.append S.d (segN (lastG S).b) ⟨(Rp.putB r).toArray⟩ = A at *
    refine .inl ⟨rfl, ⟨hR1, fun y hy => ?_, rise_snoc 0 rs r h.up (by omega), by show S.x + 1 = _; rw [List.length_append, List.length_singleton]; omega, h.s0, by have := h.s1; show S.s ≤ S.x + 1; omega, t, ⟨(lastG S).b, (lastG S).n + 1, (lastG S).z + ((Rp.putB r).length : Nat)⟩, l, m ++ [r], by show grown S.g _ = _; rw [e1]; exact grown_snoc _ _ _, by rw [e2, List.append_assoc], e3.keep fun x a1 a2 => hoth x a1 (by omega), e4, by show (lastG S).n + 1 = _; rw [List.length_append, List.length_singleton]; omega, ?_, ?_, ?_⟩, rfl⟩
    · rcases List.mem_append.1 hy with hy | hy
      · exact h.ok y hy
      · rw [List.mem_singleton] at hy; subst hy; exact hr
    · show dat A.1 (segN (lastG S).b) = _
      rw [o2, if_pos rfl, Rp.rowB_snoc, ← hp]
    · show (lastG S).z + _ = _
      rw [Rp.rowB_snoc, List.length_append, e7, ← hp]
      omega
    · have h1 := Rp.fr_le hr
      have h2 := Rp.body_le hr
      show (lastG S).z + ((Rp.putB r).length : Int) ≤ _
      rw [hp]
      omega
  · rw [if_pos hA]
    have hno := fun x => append_no hA x
    refine .inr ⟨hA, h.of hR1 (fun x _ _ _ => hno _) rfl rfl h.s0 h.s1 (by omega), rfl⟩
/-- What is appended: a record more, or none. -/
theorem Inv.append {q : Int} {S : St} {rs : List Rp.Rec} (h : Inv q S rs) (hq : 0 < q) (r : Rp.Rec) :
    ((append S q r).2 = 0 ∧ Rp.Ok r ∧ r.a = S.x ∧ Inv q (append S q r).1 (rs ++ [r]) ∧ S.s ≤ (append S q r).1.s) ∨ ((append S q r).2 ≠ 0 ∧ Inv q (append S q r).1 rs ∧ S.s ≤ (append S q r).1.s) := by
  have hx := h.x
  unfold So.append
  split
  · exact .inr ⟨fun e => (by cases e), h, Int.le_refl _⟩
  rename_i h1
  have h1 : Rp.Ok r ∧ r.a = S.x := Classical.not_not.1 h1
  split
  · exact .inr ⟨fun e => (by cases e), h, Int.le_refl _⟩
  rename_i h2
  split
  · rename_i h3
    obtain ⟨r1, r2, r3⟩ := h.roll hq h3 (by omega)
    split
    · rename_i h4
      exact .inr ⟨h4, r1, r3⟩
    · rename_i h4
      have h4 : (So.roll S).2 = 0 := by simpa using h4
      have hxx : (So.roll S).1.x = S.x := r1.x.trans hx.symm
      rcases r1.put (by rw [r2 h4]; exact hq) h1.1 (by rw [hxx]; exact h1.2) (by omega) with ⟨a1, a2, a3⟩ | ⟨a1, a2, a3⟩
      · exact .inl ⟨a1, h1.1, h1.2, a2, by omega⟩
      · exact .inr ⟨a1, a2, by omega⟩
  · rename_i h3
    rcases h.put (by omega) h1.1 h1.2 (by omega) with ⟨a1, a2, a3⟩ | ⟨a1, a2, a3⟩
    · exact .inl ⟨a1, h1.1, h1.2, a2, by omega⟩
    · exact .inr ⟨a1, a2, by omega⟩

end Go.Proofs.YthhhocgpoenigaaGreat.So

namespace Go.Proofs.YthhhocgpoenigaaGreat.So
open Go.Proofs.YthhhocgpoenigaaGreat.Dp

/-- A disk with power, without a fuse and without a bound: every change that may be is done. -/
structure Calm (D : Dk) : Prop where
  x : D.x = false
  a : D.a = false
  c : D.c = 0
theorem Calm.change {D : Dk} (h : Calm D) (l : List Fl) : Dp.change D l 0 = ({ D with f := l }, 0) ∧ Calm { D with f := l } := by
  refine ⟨?_, h.x, h.a, h.c⟩
  unfold Dp.change
  rw [if_neg (by rw [h.x]; decide), if_neg (by decide), if_neg (by rw [h.a]; simp), if_neg (by rw [h.a]; decide)]
theorem Calm.create {D : Dk} (h : Calm D) {n : ByteArray} (hn : Named n) (hg : get D.f n = none) : Dp.create D n = ({ D with f := withF D.f ⟨n, ⟨#[]⟩, 0⟩ }, 0) ∧ Calm (Dp.create D n).1 := by
  have e : Dp.create D n = ({ D with f := withF D.f ⟨n, ⟨#[]⟩, 0⟩ }, 0) := by
    unfold Dp.create
    rw [if_neg (by simpa using hn), hg]
    exact (h.change _).1
  rw [e]
  exact ⟨rfl, (h.change _).2⟩
theorem Calm.append {D : Dk} (h : Calm D) {n s : ByteArray} {f : Fl} (hg : get D.f n = some f) : Dp.append D n s = ({ D with f := withF D.f ⟨f.n, f.d ++ s, f.s⟩ }, 0) ∧ Calm (Dp.append D n s).1 := by
  have e : Dp.append D n s = ({ D with f := withF D.f ⟨f.n, f.d ++ s, f.s⟩ }, 0) := by
    unfold Dp.append
    rw [hg]
    dsimp only
    rw [if_neg (by rw [h.c]; exact fun h => absurd h.1 (by decide))]
    exact (h.change _).1
  rw [e]
  exact ⟨rfl, (h.change _).2⟩
theorem Calm.sync {D : Dk} (h : Calm D) {n : ByteArray} {f : Fl} (hg : get D.f n = some f) : Dp.sync D n = ({ D with f := withF D.f ⟨f.n, f.d, f.d.size⟩ }, 0) ∧ Calm (Dp.sync D n).1 := by
  have e : Dp.sync D n = ({ D with f := withF D.f ⟨f.n, f.d, f.d.size⟩ }, 0) := by
    unfold Dp.sync
    rw [hg]
    exact (h.change _).1
  rw [e]
  exact ⟨rfl, (h.change _).2⟩
theorem Calm.rename {D : Dk} (h : Calm D) {n m : ByteArray} {f : Fl} (hg : get D.f n = some f) (hm : Named m) : Dp.rename D n m = ({ D with f := withF (without D.f n) ⟨m, f.d, f.s⟩ }, 0) ∧ Calm (Dp.rename D n m).1 := by
  have e : Dp.rename D n m = ({ D with f := withF (without D.f n) ⟨m, f.d, f.s⟩ }, 0) := by
    unfold Dp.rename
    rw [hg]
    dsimp only
    rw [if_neg (by simpa using hm)]
    exact (h.change _).1
  rw [e]
  exact ⟨rfl, (h.change _).2⟩
theorem named_nm : Named nm ∧ Named nn := ⟨⟨by decide, by decide⟩, ⟨by decide, by decide⟩⟩
theorem named_seg {b : Int} (h0 : 0 ≤ b) (h1 : b ≤ 1099511627776) : Named (segN b) := by
  obtain ⟨n, rfl⟩ : ∃ n : Nat, b = (n : Int) := ⟨b.toNat, by omega⟩
  have : (segN (n : Int)).size = 14 := Np.name_len 115 (show n ≤ 1099511627776 by omega)
  exact ⟨by omega, by omega⟩
/-- On such a disk a manifest is swapped. -/
theorem Calm.swapS {D : Dk} (h : Calm D) (hR : Right D) (hg : get D.f nn = none) (s : ByteArray) : (swapS D s).2 = 0 := by
  have c1 := h.create named_nm.2 hg
  have r1 := right0 hR nn
  have g1 : get (Dp.create D nn).1.f nn = some ⟨nn, ⟨#[]⟩, 0⟩ := by rw [c1.1]; exact (get_withF hR.2.1 _ _).trans (if_pos rfl)
  have c2 := c1.2.append (s := s) g1
  have r2 := right1 r1 nn s
  have g2 : ∃ f, get (Dp.append (Dp.create D nn).1 nn s).1.f nn = some f := by rw [c2.1]; exact ⟨_, (get_withF r1.2.1 _ _).trans (if_pos rfl)⟩
  obtain ⟨f2, g2⟩ := g2
  have c3 := c2.2.sync g2
  have g3 : ∃ f, get (Dp.sync (Dp.append (Dp.create D nn).1 nn s).1 nn).1.f nn = some f := by rw [c3.1]; exact ⟨_, (get_withF r2.2.1 _ _).trans (if_pos (get_mem g2).2.symm)⟩
  obtain ⟨f3, g3⟩ := g3
  have c4 := c3.2.rename g3 named_nm.1
  have e1 : (Dp.create D nn).2 = 0 := by rw [c1.1]
  have e2 : (Dp.append (Dp.create D nn).1 nn s).2 = 0 := by rw [c2.1]
  have e3 : (Dp.sync (Dp.append (Dp.create D nn).1 nn s).1 nn).2 = 0 := by rw [c3.1]
  have e4 : (Dp.rename (Dp.sync (Dp.append (Dp.create D nn).1 nn s).1 nn).1 nn nm).2 = 0 := by rw [c4.1]
  unfold So.swapS
  rw [if_neg (by rw [e1]; decide), if_neg (by rw [e2]; decide), if_neg (by rw [e2]; decide), if_neg (by rw [e3]; decide)]
  exact e4
theorem first_ok : Qm.Ok ⟨1, [0], 0, 0⟩ := ⟨by decide, by decide, by decide, by decide, fun i hi => by
  obtain rfl : i = 0 := by simpa using hi
  exact ⟨by decide, by decide, fun h => absurd h (by decide)⟩, .inl ⟨rfl, rfl, rfl⟩, by decide, by decide⟩
/-- A log on an empty disk. -/
theorem create_new {q : Int} (hq : 0 ≤ q) : (createT empty).2 = 0 ∧ Inv q (createT empty).1 [] ∧ (createT empty).1.g = [⟨0, 0, 0⟩] := by
  have h0 : Calm empty := ⟨rfl, rfl, rfl⟩
  have R0 := Right.empty
  have c1 := h0.create (n := segN 0) (named_seg (by decide) (by decide)) rfl
  have e1 : (Dp.create empty (segN 0)).2 = 0 := by rw [c1.1]
  have r1 := right0 R0 (segN 0)
  have hd0 : dat (Dp.create empty (segN 0)).1 (segN 0) = some [] := by rw [create_ok R0 e1, if_pos rfl]
  have hg : get (Dp.create empty (segN 0)).1.f nn = none := by
    rw [c1.1]
    exact (get_withF R0.2.1 _ _).trans (if_neg fun e => (segN_nm (b := 0) (by decide) (by decide)).2 e.symm)
  unfold createT
  rw [if_neg (by rw [e1]; decide)]
  dsimp only
  generalize Dp.create empty (segN 0) = C at *
  have hm : man ⟨C.1, 1, [⟨0, 0, 0⟩], 0, 0, 0, 0⟩ = ⟨1, [0], 0, 0⟩ := rfl
  obtain ⟨w1, w2⟩ := swap_dat r1 (man ⟨C.1, 1, [⟨0, 0, 0⟩], 0, 0, 0, 0⟩)
  have w3 : (swap C.1 (man ⟨C.1, 1, [⟨0, 0, 0⟩], 0, 0, 0, 0⟩)).2 = 0 := by
    unfold swap
    rw [hm, Qm.putM_yes first_ok, if_neg (by decide), hg, if_neg (by decide)]
    exact c1.2.swapS r1 hg _
  rw [if_neg (by rw [w3]; decide)]
  refine ⟨rfl, ⟨w1, by simp, trivial, rfl, Int.le_refl _, Int.le_refl _, [], ⟨0, 0, 0⟩, [], [], rfl, rfl, rfl, rfl, rfl, ?_, rfl, by show (0 : Int) ≤ _; omega⟩, rfl⟩
  show dat (swap C.1 _).1 (segN 0) = _
  rw [w2 _ (segN_nm (b := 0) (by decide) (by decide)).1 (segN_nm (b := 0) (by decide) (by decide)).2, hd0]
  rfl

/-- The records of a segment's file. -/
def recsG (D : Dk) (b : Int) : List Rp.Rec := (Gp.full ((dat D (segN b)).getD []) b).1.map Prod.fst
def readT (S : St) (off : Int) : Rp.Rec × Int :=
  if off < 0 ∨ S.x ≤ off then (Rp.zero, 6)
  else match (S.g.flatMap fun g => recsG S.d g.b).find? fun r => decide (r.a = off) with
    | some r => (r, 0)
    | none => (Rp.zero, 11)
theorem full_row {l : List Rp.Rec} (hok : ∀ r ∈ l, Rp.Ok r) {b : Int} (hr : Gp.Rise b l) (h0 : 0 ≤ b) (h1 : b ≤ 1099511627776) : (Gp.full (Rp.rowB l) b).1.map Prod.fst = l := by
  have := Gp.pls_rows l b 0 [] 0 hok hr (.inl ⟨rfl, rfl⟩)
  rw [List.append_nil] at this
  rw [Gp.full_in (Rp.inB_mk h0 h1), List.drop_zero, this]
  exact Gp.withAt_fst l 0
theorem rise_append : ∀ (b : Int) (l r : List Rp.Rec), Gp.Rise b (l ++ r) → Gp.Rise b l ∧ Gp.Rise (b + l.length) r
  | b, [], r, h => ⟨trivial, by simpa using h⟩
  | b, a :: l, r, h => by
    obtain ⟨h1, h2⟩ := rise_append (b + 1) l r h.2
    refine ⟨⟨h.1, h1⟩, ?_⟩
    rw [List.length_cons, show b + ((l.length + 1 : Nat) : Int) = b + 1 + (l.length : Int) from by omega]
    exact h2
theorem Fulls.recs {D : Dk} {q : Int} : ∀ {t : List Rt.Sg} {b : Int} {rs : List Rp.Rec}, Fulls D q t b rs → (∀ r ∈ rs, Rp.Ok r) → Gp.Rise b rs → 0 ≤ b → b + rs.length ≤ 1099511627776 → (t.flatMap fun g => recsG D g.b) = rs
  | [], _, _, h, _, _, _, _ => by rw [show _ = [] from h]; rfl
  | g :: t, b, rs, ⟨a1, l, r, a2, a3, a4, a5, a6, a7, a8, a9⟩, hok, hr, h0, h1 => by
    subst a2
    rw [List.length_append] at h1
    obtain ⟨i1, i2⟩ := rise_append b l r hr
    rw [List.flatMap_cons, a9.recs (fun y hy => hok y (List.mem_append_right _ hy)) (by rw [a4]; exact i2) (by omega) (by omega)]
    congr 1
    unfold recsG
    rw [a1, a5]
    exact full_row (fun y hy => hok y (List.mem_append_left _ hy)) i1 h0 (by omega)
theorem Inv.recs {q : Int} {S : St} {rs : List Rp.Rec} (h : Inv q S rs) (hl : rs.length ≤ 1099511627776) : (S.g.flatMap fun g => recsG S.d g.b) = rs := by
  obtain ⟨t, g, l, r, e1, e2, e3, e4, e5, e6, e7, e8⟩ := h.seg
  have hup := h.up
  have hok := h.ok
  subst e2
  rw [List.length_append] at hl
  obtain ⟨i1, i2⟩ := rise_append 0 l r hup
  rw [e1, List.flatMap_append, e3.recs (fun y hy => hok y (List.mem_append_left _ hy)) i1 (Int.le_refl _) (by omega)]
  congr 1
  show recsG S.d g.b ++ [] = r
  rw [List.append_nil]
  unfold recsG
  rw [e6]
  exact full_row (fun y hy => hok y (List.mem_append_right _ hy)) (by rw [e4]; simpa using i2) (by omega) (by omega)
theorem find_at : ∀ (b : Int) (rs : List Rp.Rec), Gp.Rise b rs → ∀ i (h : i < rs.length), rs.find? (fun r => decide (r.a = b + i)) = some rs[i]
  | b, a :: l, h, 0, _ => by
    rw [List.find?_cons_of_pos (by have := h.1; simp; omega)]
    rfl
  | b, a :: l, h, i + 1, hi => by
    have := find_at (b + 1) l h.2 i (by simpa using hi)
    rw [List.find?_cons_of_neg (by have := h.1; simp; omega), List.getElem_cons_succ]
    rw [← this]
    congr 1
    funext r
    congr 1
    exact propext ⟨fun h => by omega, fun h => by omega⟩
/-- What was appended is read; nothing else is. -/
theorem Inv.read {q : Int} {S : St} {rs : List Rp.Rec} (h : Inv q S rs) (hl : rs.length ≤ 1099511627776) {i : Nat} (hi : i < rs.length) : readT S (i : Int) = (rs[i], 0) := by
  have hx := h.x
  unfold readT
  rw [if_neg (by omega), h.recs hl]
  have := find_at 0 rs h.up i hi
  rw [show (0 : Int) + (i : Int) = (i : Int) from by omega] at this
  rw [this]
theorem Inv.read_end {q : Int} {S : St} {rs : List Rp.Rec} (h : Inv q S rs) : readT S (rs.length : Int) = (Rp.zero, 6) := by
  have hx := h.x
  unfold readT
  rw [if_pos (by omega)]

end Go.Proofs.YthhhocgpoenigaaGreat.So

namespace Go.Proofs.YthhhocgpoenigaaGreat.Sto
open Go.RowKit Go.Proofs.YthhhocgpoenigaaGreat.So Go.Proofs.YthhhocgpoenigaaGreat.Dsk Go.Proofs.YthhhocgpoenigaaGreat.Rts

/-- A slice with elements lies in another block than that one. -/
def Sep (v : Value) (t : Nat) : Prop := ∀ a k c, v = .slice (some a) k c → 0 < k → a.block ≠ t
theorem Sep.nil (t c : Nat) (a : Option Addr) : Sep (.slice a 0 c) t := fun _ _ _ e h => by injection e with _ e2; omega
section
variable {α : Type} {Y : Lay α} {W : World} {v : Value} {l : List α} {t : Nat}
theorem IsL.blk (h : IsL Y W v l) {a : Addr} {k c : Nat} (e : v = .slice (some a) k c) (hk : 0 < k) : a.block < W.heap.size := by
  subst e
  obtain ⟨a', cap', e, _, _, h3⟩ := h
  injection e with e1 e2 e3
  rcases h3 with h3 | ⟨b, off, h4, h5⟩
  · subst h3; simp at e2; omega
  · rw [← e1] at h4
    injection h4 with h4
    subst h4
    have h6 : 0 < (Y.vals l).length := by rw [Y.vals_len, ← e2]; exact Nat.mul_pos hk Y.pos
    have := h5 0 _ (List.getElem?_eq_getElem h6)
    exact block_lt_of_cell this
theorem IsL.sep_new (h : IsL Y W v l) (ht : W.heap.size ≤ t) : Sep v t := fun _ _ _ e hk => by have := IsL.blk h e hk; omega
theorem IsL.setC (h : IsL Y W v l) (hs : Sep v t) (o : Nat) (x : Value) : IsL Y (W.setCell ⟨t, o, none⟩ x) v l := by
  obtain ⟨a, cap, rfl, h1, h2, h3⟩ := h
  refine ⟨a, cap, rfl, h1, h2, ?_⟩
  rcases h3 with h3 | ⟨b, off, rfl, h4⟩
  · exact .inl h3
  · by_cases h0 : l = []
    · exact .inl h0
    · refine .inr ⟨b, off, rfl, fun j u hj => ?_⟩
      rw [World.cell?_setCell_other _ _ _ _ (fun e => hs _ _ _ rfl (List.length_pos_iff.2 h0) (by injection e with e; exact e.symm))]
      exact h4 j u hj
theorem IsL.set5 (h : IsL Y W v l) (hs : Sep v t) (x y z u q : Value) : IsL Y (set5 W t x y z u q) v l :=
  IsL.setC (IsL.setC (IsL.setC (IsL.setC (IsL.setC h hs _ _) hs _ _) hs _ _) hs _ _) hs _ _
theorem own_sep {B : Nat} (h : OwnL Y W B v l) (ht : t < B) : Sep v t := fun a k c e hk => by
  subst e
  rcases h.2 with ⟨e, _⟩ | ⟨g, cap, cur, e, h1, _⟩
  · cases e
  · injection e with e1
    injection e1 with e1
    subst e1
    show g ≠ t
    omega
end
/-- A block of another type is not a row of the call's own. -/
theorem row_not {W : World} {k : Nat} {cs : Array Value} {t e : TypeId} {fz : Nat × Nat} (h : W.heap[k]? = some (.cells cs t fz)) (hte : t ≠ e) {base size n : Nat} {v : Value} {xs : List Value} (hr : W.ownsRow base e size v n xs) : some k ≠ v.ownBlock := by
  rcases hr.2 with ⟨rfl, _⟩ | ⟨g, cap, cur, rfl, _, hgb, _⟩
  · simp [Value.ownBlock]
  · intro e'
    obtain rfl : k = g := by simpa [Value.ownBlock] using e'
    rw [h] at hgb
    injection hgb with hgb
    injection hgb with _ e1
    exact hte e1
theorem row_grown {W W' : World} {k : Nat} {cs : Array Value} {t e : TypeId} {fz : Nat × Nat} (h : W.heap[k]? = some (.cells cs t fz)) (hte : t ≠ e) {base size n : Nat} {v : Value} {xs : List Value} (hr : W.ownsRow base e size v n xs) (hg : W.grownBy W' v.ownBlock) : W'.heap[k]? = some (.cells cs t fz) :=
  (hg.block k (Array.getElem?_eq_some_iff.1 h).1 (row_not h hte hr)).trans h
theorem cell_grown {W W' : World} {b o : Nat} {x : Value} (h : W.cell? ⟨b, o, none⟩ = some x) {e : TypeId} {base size n : Nat} {v : Value} {xs : List Value} (hr : W.ownsRow base e size v n xs) (hb : b < base) (hg : W.grownBy W' v.ownBlock) : W'.cell? ⟨b, o, none⟩ = some x :=
  (World.cell?_of_block (hg.block b (block_lt_of_cell h) (fun e' => by have := (World.ownsRow.lt hr b e'.symm).1; omega))).trans h
/-- What the document's calls on disks answer, told so that a caller may lay it in a variable. -/
structure DkS (w : World) (fv : Value) (R : Dp.Dk) (fv' : Value) (w' : World) : Prop where
  f : IsL FL w' fv' R.f
  s : ∀ t, t < w.heap.size → Sep fv t → Sep fv' t
  w : Below w.heap.size w w'
theorem rk_s {w : World} {fv : Value} {l0 : List Dp.Fl} {R : Dp.Dk × Int} {e : Ending} {w' : World} (h : RkOut w fv l0 R e w') (hv : IsL FL w fv l0) (hS : Sm R.1) : ∃ a n c, e = .returned (.tuple #[dkVal (.slice a n c) R.1, .int .i64 R.2]) ∧ DkS w fv R.1 (.slice a n c) w' := by
  obtain ⟨a, n, c, rfl, hk, hb⟩ := h
  refine ⟨a, n, c, rfl, ?_, ?_, hb⟩
  · rcases hk with ⟨e1, e2⟩ | hk
    · rw [e1, e2]; exact hv.keep hb
    · exact hk.is (by have := hS.n; unfold maxLen; omega) hS.flb
  · intro t ht hs
    rcases hk with ⟨e1, _⟩ | hk
    · rw [e1]; exact hs
    · exact own_sep hk ht

/-- A store as a value. -/
def stVal (fv gv : Value) (S : St) : Value := .agg #[fv, .int .i64 S.d.c, .bool S.d.a, .int .i64 S.d.l, .bool S.d.x, .int .i64 S.v, gv, .int .i64 S.x, .int .i64 S.s, .int .i64 S.z, .int .u32 S.c]
def stCells (fv gv : Value) (S : St) : Array Value := #[fv, .int .i64 S.d.c, .bool S.d.a, .int .i64 S.d.l, .bool S.d.x, .int .i64 S.v, gv, .int .i64 S.x, .int .i64 S.s, .int .i64 S.z, .int .u32 S.c]
/-- A store of no great bulk. -/
structure Stb (S : St) : Prop where
  d : Sm S.d
  v : 0 ≤ S.v ∧ S.v ≤ 1152921504606846976
  n : S.g.length ≤ 1000
  g : ∀ g ∈ S.g, (0 ≤ g.b ∧ g.b ≤ 1152921504606846976) ∧ (0 ≤ g.n ∧ g.n ≤ 1152921504606846976) ∧ (0 ≤ g.z ∧ g.z ≤ 1152921504606846976)
  x : 0 ≤ S.x ∧ S.x ≤ 1152921504606846976
  s : 0 ≤ S.s ∧ S.s ≤ 1152921504606846976
  z : 0 ≤ S.z ∧ S.z ≤ 1152921504606846976
  c : 0 ≤ S.c ∧ S.c < 4294967296
/-- What a call on a store answers. -/
structure StS (w : World) (fv gv : Value) (R : St) (fv' gv' : Value) (w' : World) : Prop where
  f : IsL FL w' fv' R.d.f
  g : IsL SL w' gv' R.g
  s : ∀ t, t < w.heap.size → Sep fv t → Sep gv t → Sep fv' t ∧ Sep gv' t
  w : Below w.heap.size w w'
def StOut (w : World) (fv gv : Value) (R : St × Int) (e : Ending) (w' : World) : Prop := ∃ fa fn fc ga gn gc, e = .returned (.tuple #[stVal (.slice fa fn fc) (.slice ga gn gc) R.1, .int .i64 R.2]) ∧ StS w fv gv R.1 (.slice fa fn fc) (.slice ga gn gc) w'

theorem cellsS {W : World} {k : Nat} {T : TypeId} {a b c d e f g h i j l : Value} (hh : W.heap[k]? = some (.cells #[a, b, c, d, e, f, g, h, i, j, l] T (0, 0))) :
    (W.cell? ⟨k, 0, none⟩ = some a ∧ W.cell? ⟨k, 1, none⟩ = some b ∧ W.cell? ⟨k, 2, none⟩ = some c ∧ W.cell? ⟨k, 3, none⟩ = some d ∧ W.cell? ⟨k, 4, none⟩ = some e) ∧ W.cell? ⟨k, 5, none⟩ = some f ∧ W.cell? ⟨k, 6, none⟩ = some g ∧ W.cell? ⟨k, 7, none⟩ = some h ∧ W.cell? ⟨k, 8, none⟩ = some i ∧ W.cell? ⟨k, 9, none⟩ = some j ∧ W.cell? ⟨k, 10, none⟩ = some l :=
  ⟨⟨by rw [Lib.cell_of_heap hh]; rfl, by rw [Lib.cell_of_heap hh]; rfl, by rw [Lib.cell_of_heap hh]; rfl, by rw [Lib.cell_of_heap hh]; rfl, by rw [Lib.cell_of_heap hh]; rfl⟩, by rw [Lib.cell_of_heap hh]; rfl, by rw [Lib.cell_of_heap hh]; rfl, by rw [Lib.cell_of_heap hh]; rfl, by rw [Lib.cell_of_heap hh]; rfl, by rw [Lib.cell_of_heap hh]; rfl, by rw [Lib.cell_of_heap hh]; rfl⟩
theorem frozenS {W : World} {k : Nat} {T : TypeId} {cs : Array Value} (h : W.heap[k]? = some (.cells cs T (0, 0))) : ∀ o, W.frozen? ⟨k, o, none⟩ = false := fun o => Lib.frozen_of_heap h o

set_option maxRecDepth 100000 in
set_option maxHeartbeats 800000 in
/-- The document's last. -/
theorem rlast_any (fv gv : Value) (S : St) (w : World) (hg : IsL SL w gv S.g) (hn : S.g ≠ []) (hB : Stb S) :
    Calls Tryz.prog 78 #[stVal fv gv S] w fun e w' => e = .returned (.string (segN (lastG S).b)) ∧ Below w.heap.size w w' := by
  obtain ⟨ga, gn, gc, rfl⟩ : ∃ a n c, gv = .slice a n c := by obtain ⟨a, c, h, _⟩ := hg; exact ⟨a, _, c, h⟩
  have hgl := hg.len.1
  have hpos : 0 < S.g.length := List.length_pos_iff.2 hn
  obtain ⟨m, rfl⟩ : ∃ m, gn = m + 1 := ⟨gn - 1, by omega⟩
  have hm : S.g.length - 1 = m := by omega
  have hn2 := hB.n
  have C := Lib.hid fun W : World => rseg_any (lastG S).b W (by
    have := (hB.g (lastG S) (by unfold lastG; rw [getD_lt (show S.g.length - 1 < S.g.length by omega)]; exact List.getElem_mem _)).1
    omega)
  have HG := Lib.hid fun (W : World) (b : Below w.heap.size w W) => sg_at (hg.keep b) (Nat.lt_succ_self m)
  have HL := Lib.hid (show S.g.getD m Rt.zero = lastG S by unfold lastG; rw [hm])
  rw [HL.out] at HG
  generalize lastG S = g at *
  unfold stVal
  have hb0 := Lib.hid ((Below.refl w.heap.size w).alloc (Nat.le_refl _) (.cells (stCells fv (.slice ga (m + 1) gc) S) 31))
  have g0 := heap_alloc_new w (.cells (stCells fv (.slice ga (m + 1) gc) S) 31)
  unfold stCells at hb0 g0
  obtain ⟨b, off, rfl, c0, _, _⟩ := HG.out _ hb0.out
  obtain ⟨⟨d0, d1, d2, d3, d4⟩, d5, d6, d7, d8, d9, d10⟩ := cellsS g0
  have hmw : IntKind.i64.wrap (((m + 1 : Nat) : Int) - 1) = (m : Int) := by
    rw [show ((m + 1 : Nat) : Int) - 1 = (m : Int) from by omega]
    exact IntWalk.i64_in _ ⟨by omega, by omega⟩
  have hmw2 : IntKind.i64.wrap (m : Int) = (m : Int) := IntWalk.i64_in _ ⟨by omega, by omega⟩
  clear hg hgl hpos hm hn hB g0
  go_enter Tryz.func78, Tryz.ntmps78
  go_wp2_with fail
  refine (C.out _).mono ?_
  rintro e w1 ⟨rfl, b1⟩
  have B1 := Lib.hid (hb0.out.trans (b1.mono hb0.out.size))
  clear b1
  go_wp2_with fail
  go_ret
  exact ⟨rfl, B1.out⟩

end Go.Proofs.YthhhocgpoenigaaGreat.Sto
