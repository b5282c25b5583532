/-
  What the statements' own row answers: the frames of bodies, and where each ends; or that one isn't one.
-/
import Derived.Test.YtnkgbmfpfdadjaaLaw03A
namespace Go.Proofs.Ytnkgbmfpfdadjaa
open Go.RowKit

/-- The bytes of strings. -/
def bl (ss : List ByteArray) : List (List UInt8) := ss.map (·.data.toList)
/-- A string that row takes. -/
def BodyOk (s : ByteArray) : Prop := 1 ≤ s.size ∧ s.size ≤ 300
def RowOk (ss : List ByteArray) : Prop := ss.length ≤ 20 ∧ ∀ s ∈ ss, BodyOk s
/-- Where the first k frames end. -/
def endAt (ss : List ByteArray) (k : Nat) : Nat := (Fr.row (bl (ss.take k))).length
def ends (ss : List ByteArray) (k : Nat) : List Nat := (List.range (k + 1)).map (endAt ss)
theorem ends_len (ss : List ByteArray) (k : Nat) : (ends ss k).length = k + 1 := by simp [ends]
theorem ends_get (ss : List ByteArray) {k i : Nat} (h : i ≤ k) : (ends ss k).getD i 0 = endAt ss i := by
  unfold ends
  rw [List.getD_eq_getElem?_getD, List.getElem?_map, List.getElem?_range (by omega)]
  rfl
theorem ends_snoc (ss : List ByteArray) (k : Nat) : ends ss (k + 1) = ends ss k ++ [endAt ss (k + 1)] := by
  unfold ends; rw [List.range_succ, List.map_append]; rfl

/-- Numbers as cells. -/
def natVals (l : List Nat) : List Value := l.map fun (n : Nat) => Value.int .i64 (n : Int)
theorem natVals_len (l : List Nat) : (natVals l).length = l.length := by simp [natVals]
theorem natVals_snoc (l : List Nat) (n : Nat) : natVals (l ++ [n]) = natVals l ++ [.int .i64 (n : Int)] := by simp [natVals]

/-- The value v is a slice whose elements are these numbers. -/
def IsNats (w : World) (v : Value) (ns : List Nat) : Prop :=
  ∃ a cap, v = .slice (some ⟨a, 0, none⟩) ns.length cap ∧ ns.length ≤ maxLen ∧ ∀ i, i < ns.length → w.cell? ⟨a, i, none⟩ = some (.int .i64 ((ns.getD i 0 : Nat) : Int))
theorem IsNats.below {B : Nat} {w w' : World} {v : Value} {ns : List Nat} (h : IsNats w v ns) (hb : Below B w w') (hB : w.heap.size ≤ B) : IsNats w' v ns := by
  obtain ⟨a, cap, rfl, h1, h2⟩ := h
  refine ⟨a, cap, rfl, h1, fun i hi => ?_⟩
  have h3 := h2 i hi
  rw [hb.cell (p := ⟨a, i, none⟩) (Nat.lt_of_lt_of_le (block_lt_of_cell h3) hB)]
  exact h3
theorem IsNats.own {w : World} {base n : Nat} {v : Value} {ns : List Nat} (h : w.ownsRow base 3 1 v n (natVals ns)) (hm : n ≤ maxLen) (h0 : 0 < ns.length) : IsNats w v ns := by
  have hn : n = ns.length := by have := h.1; rw [natVals_len] at this; omega
  subst hn
  rcases h.2 with ⟨rfl, h1⟩ | ⟨g, cap, cur, rfl, h1⟩
  · omega
  · refine ⟨g, cap, rfl, hm, fun i hi => ?_⟩
    have hc := h.cells (g := g) rfl i (.int .i64 ((ns.getD i 0 : Nat) : Int)) (by simp [natVals, List.getD_eq_getElem?_getD, hi])
    have e : (⟨g, 0, none⟩ : Addr).add i = ⟨g, i, none⟩ := by unfold Addr.add; split <;> simp_all
    rwa [e] at hc

theorem bl_snoc {ss : List ByteArray} {k : Nat} (h : k < ss.length) : bl (ss.take (k + 1)) = bl (ss.take k) ++ [(ss.getD k ByteArray.empty).data.toList] := by
  have e : ss.getD k ByteArray.empty = ss[k] := by simp [List.getD_eq_getElem?_getD, h]
  unfold bl
  rw [List.take_succ_eq_append_getElem h, List.map_append, e]
  rfl
theorem row_snoc {ss : List ByteArray} {k : Nat} (h : k < ss.length) : Fr.row (bl (ss.take (k + 1))) = Fr.row (bl (ss.take k)) ++ Fr.fr (ss.getD k ByteArray.empty).data.toList := by
  rw [bl_snoc h, Fr.row_append]
  simp [Fr.row]

/-- What row answers. -/
def RowOut (w : World) (ss : List ByteArray) (e : Ending) (w' : World) : Prop :=
  (RowOk ss ∧ ∃ v, e = .returned (.tuple #[.string ⟨(Fr.row (bl ss)).toArray⟩, v, .bool true]) ∧ IsNats w' v (ends ss ss.length) ∧ Below w.heap.size w w') ∨
  (¬ RowOk ss ∧ e = .returned (.tuple #[.string ⟨#[]⟩, .slice none 0 0, .bool false]) ∧ Below w.heap.size w w')
theorem RowOut.yes {w w' : World} {ss : List ByteArray} {v : Value} (h : RowOk ss) (hv : IsNats w' v (ends ss ss.length)) (hb : Below w.heap.size w w') :
    RowOut w ss (.returned (.tuple #[.string ⟨(Fr.row (bl ss)).toArray⟩, v, .bool true])) w' := .inl ⟨h, v, rfl, hv, hb⟩
theorem RowOut.no {w w' : World} {ss : List ByteArray} (h : ¬ RowOk ss) (hb : Below w.heap.size w w') :
    RowOut w ss (.returned (.tuple #[.string ⟨#[]⟩, .slice none 0 0, .bool false])) w' := .inr ⟨h, rfl, hb⟩

theorem info_int : (Try.prog.info? 3).map (fun i => (i.zero, i.size, i.bytes)) = some (some (.int .i64 0), 1, 8) := by kernel_rfl

theorem bad_row {ss : List ByteArray} {k : Nat} {s : ByteArray} (hk : k < ss.length) (hs : ss.getD k ByteArray.empty = s) (h : ¬ BodyOk s) : ¬ RowOk ss := by
  intro hr
  exact h (hs ▸ hr.2 _ (getD_mem hk))
theorem ok_snoc {ss : List ByteArray} {k : Nat} (hk : k < ss.length) (h : ∀ s ∈ ss.take k, BodyOk s) (h1 : BodyOk (ss.getD k ByteArray.empty)) : ∀ s ∈ ss.take (k + 1), BodyOk s := by
  have e : ss.getD k ByteArray.empty = ss[k] := by simp [List.getD_eq_getElem?_getD, hk]
  intro s hs
  rw [List.take_succ_eq_append_getElem hk] at hs
  rcases List.mem_append.1 hs with hs | hs
  · exact h s hs
  · rw [List.mem_singleton] at hs; rw [hs, ← e]; exact h1

theorem put_small (s : ByteArray) (hs : s.size ≤ maxLen) : ∃ (f : ByteArray) (e : Int),
    ∀ W : World, Calls Try.prog 9 #[.string s] W fun x W' => x = .returned (.tuple #[.string f, .int .i64 e]) ∧ Below W.heap.size W W' := by
  obtain ⟨f, e, h, _⟩ := put_form s hs
  exact ⟨f, e, h⟩

set_option maxRecDepth 100000 in
set_option maxHeartbeats 800000 in
theorem row_long (a : Option Addr) (ss : List ByteArray) (cap : Nat) (w : World) (hl : 20 < ss.length) :
    Calls Try.prog 18 #[.slice a ss.length cap] w (RowOut w ss) := by
  have HF := Lib.hid fun (W : World) (b : Below w.heap.size w W) => RowOut.no (w' := W) (ss := ss) (fun h => by have := h.1; omega) b
  generalize ss.length = len at hl ⊢
  have hl' : (20 : Int) < (len : Int) := by omega
  clear hl
  go_enter Try.func18, Try.ntmps18
  go_wp2_with fail
  go_ret3
  exact HF.out _ ((Below.refl _ _).alloc (Nat.le_refl _) _)

set_option maxRecDepth 100000 in
set_option maxHeartbeats 800000 in
theorem row_none (a : Option Addr) (cap : Nat) (w : World) :
    Calls Try.prog 18 #[.slice a 0 cap] w (RowOut w []) := by
  go_enter Try.func18, Try.ntmps18
  go_wp2_with fail
  refine wp_loop_rounds 1 ?_
  rw [rounds_succ]
  go_wp2_with fail
  go_ret3
  refine RowOut.yes ⟨by simp, by simp⟩ ⟨w.heap.size, 1, rfl, by decide, fun i hi => ?_⟩ ((Below.refl _ _).alloc (Nat.le_refl _) _)
  have h0 : i = 0 := by have : (ends [] 0).length = 1 := rfl
                        simp at hi; omega
  subst h0
  exact cell_one_new w (.int .i64 0) _ 0 _ rfl

set_option maxRecDepth 100000 in
set_option maxHeartbeats 1600000 in
theorem row_some (ss : List ByteArray) (b off cap : Nat) (w : World) (hl : ss.length ≤ 20) (hs : ∀ s ∈ ss, s.size ≤ maxLen)
    (hc : ∀ i, i < ss.length → w.cell? ⟨b, off + i, none⟩ = some (.string (ss.getD i ByteArray.empty))) :
    Calls Try.prog 18 #[.slice (some ⟨b, off, none⟩) ss.length cap] w (RowOut w ss) := by
  have HS := Lib.hid hs
  have HC := Lib.hid hc
  clear hs hc
  obtain ⟨len, hlen⟩ : ∃ len, ss.length = len := ⟨_, rfl⟩
  rw [hlen] at hl HC ⊢
  have HL := Lib.hid hlen
  clear hlen
  have hl' : (len : Int) ≤ 20 := by omega
  obtain ⟨i0, hi, hz0, hz1, hz2⟩ := info_parts info_int
  go_enter Try.func18, Try.ntmps18
  go_wp2_with fail
  go_loopw [5, 6, 7] (fun s v i wr => ∃ (k : Nat) (R : List UInt8), k ≤ len ∧ i = .int .i64 k ∧ s = .string ⟨R.toArray⟩ ∧ R = Fr.row (bl (ss.take k)) ∧ R.length ≤ 400 * k ∧ wr.ownsRow w.heap.size 3 1 v (k + 1) (natVals (ends ss k)) ∧ (∀ s ∈ ss.take k, BodyOk s) ∧ Below w.heap.size w wr)
    (fun _ _ i _ => len - (intOf i).toNat)
  case atStart =>
    refine ⟨0, [], Nat.zero_le _, rfl, rfl, rfl, by simp, ?_, by simp, (Below.refl _ _).alloc (Nat.le_refl _) _⟩
    exact World.ownsRow_lit w #[.int .i64 0] 1 (Nat.le_refl _) (by decide) rfl
  case round =>
    obtain ⟨k, R, hk, rfl, rfl, hR, hRl, hown, hok, hb⟩ := hrel
    have HR := Lib.hid hR
    have HO := Lib.hid hok
    clear hR hok
    by_cases hlt : k < len
    · have hlt' : k < ss.length := by rw [HL.out]; exact hlt
      have hcw := HC.out k hlt
      have hbb := block_lt_of_cell hcw
      have hcell : wr.cell? ⟨b, off + k, none⟩ = some (.string (ss.getD k ByteArray.empty)) := by
        rw [hb.cell (p := ⟨b, off + k, none⟩) hbb]; exact hcw
      have hbw : b < wr.heap.size := Nat.lt_of_lt_of_le hbb hb.size
      clear hcw hbb
      have hsz := HS.out _ (getD_mem hlt')
      have HSN := Lib.hid (row_snoc hlt')
      have HOK := Lib.hid (ok_snoc hlt' HO.out)
      have HBAD := Lib.hid fun s => @bad_row ss k s hlt'
      obtain ⟨s, hse⟩ : ∃ s, ss.getD k ByteArray.empty = s := ⟨_, rfl⟩
      have HSE := Lib.hid hse
      rw [hse] at hcell hsz HSN HOK
      clear hse hlt'
      by_cases h3 : 300 < (s.size : Int)
      · obtain ⟨f, er, hp⟩ := put_small s hsz
        have HP := Lib.hid hp
        have HF := Lib.hid (HBAD.out s HSE.out (by unfold BodyOk; omega))
        unfold maxLen at hsz
        clear hp
        go_wp2_with fail
        refine (HP.out _).mono ?_
        rintro e w1 ⟨rfl, b1⟩
        have b01 := hb.trans (b1.mono hb.size)
        have hcell1 : w1.cell? ⟨b, off + k, none⟩ = some (.string s) := by rw [b1.cell (p := ⟨b, off + k, none⟩) hbw]; exact hcell
        go_wp2_with fail
        go_ret3
        exact RowOut.no HF.out b01
      · by_cases hm : Fr.May s.size
        · have HP := Lib.hid fun W : World => fput_yes s W hm
          have hBO := HOK.out ⟨hm.1, by omega⟩
          have HB1 := Lib.hid hBO
          have hfl := Fr.fr_len s.data.toList
          have hpl := Vp.put_len_le s.data.toList.length
          rw [show s.data.toList.length = s.size from rfl] at hfl hpl
          obtain ⟨f, hf⟩ : ∃ f, Fr.fr s.data.toList = f := ⟨_, rfl⟩
          rw [hf] at HP HSN hfl
          have hfl2 : f.length ≤ 313 := by omega
          have h3' : (s.size : Int) ≤ 300 := by omega
          have HE : Hid (endAt ss (k + 1) = R.length + f.length) := Lib.hid (by unfold endAt; rw [HSN.out, ← HR.out, List.length_append])
          clear hm hf hfl hpl hBO h3
          unfold maxLen at hsz
          go_wp2_with fail
          refine (HP.out _).mono ?_
          rintro e w1 ⟨rfl, b1⟩
          have b01 := hb.trans (b1.mono hb.size)
          have hcell1 : w1.cell? ⟨b, off + k, none⟩ = some (.string s) := by rw [b1.cell (p := ⟨b, off + k, none⟩) hbw]; exact hcell
          have hown1 := own_below hown b1
          go_wp2_with (at_builtin; refine wpList_append_own _ rfl _ _ 35 rfl w.heap.size 3 i0 (.int .i64 0) 1 8 Try.underlying35 hi hz0 hz1 hz2 rfl (by decide) _ _ _ rfl (hown1.alloc _) ⟨w1.heap.size, 0, none⟩ 1 1 [.int .i64 ((R.length : Int) + (f.length : Int))] rfl rfl (cell_one_new _ _ _) (fun x hx => by simp at hx; subst hx; rfl) (by unfold maxLen; omega) (by omega) (by simp; have := b01.size; omega) ?_; intro v' w3 hown' hgrow3 hnil3)
          go_roundw
          case rel =>
            refine ⟨k + 1, R ++ f, by omega, by go_num, congrArg Value.string (ByteArray.mk_append_mk R f), by rw [HSN.out, ← HR.out], by rw [List.length_append]; omega, ?_, HB1.out, (b01.alloc b01.size _).grown hgrow3 (by simp; have := b01.size; omega) (fun p hp => (hown1.lt p hp).1)⟩
            rw [ends_snoc, natVals_snoc, HE.out]
            exact hown'
          case measure =>
            simp [intOf]; omega
        · have HP := Lib.hid fun W : World => fput_no s W hm
          have HF := Lib.hid (HBAD.out s HSE.out (by unfold Fr.May at hm; unfold BodyOk; omega))
          have h3' : (s.size : Int) ≤ 300 := by omega
          clear hm h3
          unfold maxLen at hsz
          go_wp2_with fail
          refine (HP.out _).mono ?_
          rintro e w1 ⟨rfl, rfl⟩
          go_wp2_with fail
          go_ret3
          exact RowOut.no HF.out hb
    · have hk' : k = len := by omega
      subst hk'
      have hall : ss.take k = ss := List.take_of_length_le (by rw [HL.out]; exact Nat.le_refl _)
      have HROW : Hid (RowOk ss) := Lib.hid ⟨by rw [HL.out]; omega, by have := HO.out; rwa [hall] at this⟩
      have HR2 : Hid (R = Fr.row (bl ss)) := Lib.hid (by have := HR.out; rwa [hall] at this)
      clear hall
      have HN := Lib.hid (IsNats.own hown (by unfold maxLen; omega) (by rw [ends_len]; omega))
      rw [← HL.out] at HN
      go_wp2_with fail
      go_ret3
      have := RowOut.yes HROW.out HN.out hb
      rw [← HR2.out] at this
      exact this

theorem row_any (v : Value) (ss : List ByteArray) (w : World) (h : IsStrs w v ss) :
    Calls Try.prog 18 #[v] w (RowOut w ss) := by
  obtain ⟨a, cap, rfl, h1, h2, h3⟩ := h
  by_cases hl : 20 < ss.length
  · exact row_long a ss cap w hl
  · rcases h3 with rfl | ⟨b, off, rfl, h4⟩
    · exact row_none a cap w
    · exact row_some ss b off cap w (by omega) h2 h4

/-- What follows of a row: the strings. -/
theorem bl_strs (ss : List ByteArray) : strs (bl ss) = ss := by
  unfold strs bl
  rw [List.map_map]
  exact List.map_id'' (fun s => rfl) ss
theorem bl_may {ss : List ByteArray} (h : RowOk ss) : ∀ b ∈ bl ss, Fr.May b.length := by
  intro b hb
  unfold bl at hb
  rw [List.mem_map] at hb
  obtain ⟨s, hs, rfl⟩ := hb
  have := h.2 s hs
  exact ⟨this.1, by have := this.2; show s.size ≤ 65536; omega⟩
theorem all_of_row {ss : List ByteArray} (h : RowOk ss) : Fr.all (Fr.row (bl ss)) = (bl ss, (Fr.row (bl ss)).length, 0) := by
  have := Fr.all_row (bl ss) [] (bl_may h)
  rw [List.append_nil, Fr.all_nil] at this
  simpa using this
theorem bl_split {ss : List ByteArray} {k : Nat} (h : k < ss.length) : bl ss = bl (ss.take k) ++ (ss.getD k ByteArray.empty).data.toList :: bl (ss.drop (k + 1)) := by
  have e : ss.getD k ByteArray.empty = ss[k] := by simp [List.getD_eq_getElem?_getD, h]
  rw [e]
  unfold bl
  rw [← List.map_cons (f := fun s : ByteArray => s.data.toList), ← List.map_append, ← List.drop_eq_getElem_cons h, List.take_append_drop]
theorem row_split {ss : List ByteArray} {k : Nat} (h : k < ss.length) : Fr.row (bl ss) = Fr.row (bl (ss.take k)) ++ (Fr.fr (ss.getD k ByteArray.empty).data.toList ++ Fr.row (bl (ss.drop (k + 1)))) := by
  rw [bl_split h, Fr.row_append, Fr.row_cons]
theorem endAt_succ {ss : List ByteArray} {k : Nat} (h : k < ss.length) : endAt ss (k + 1) = endAt ss k + (Fr.fr (ss.getD k ByteArray.empty).data.toList).length := by
  unfold endAt; rw [row_snoc h, List.length_append]
theorem endAt_all (ss : List ByteArray) : endAt ss ss.length = (Fr.row (bl ss)).length := by
  unfold endAt; rw [List.take_length]
theorem next_of_row {ss : List ByteArray} {k : Nat} (hr : RowOk ss) (h : k < ss.length) :
    nxAt ⟨(Fr.row (bl ss)).toArray⟩ (endAt ss k : Int) = .tuple #[.string (ss.getD k ByteArray.empty), .int .i64 (endAt ss (k + 1) : Int), .int .i64 0] := by
  rw [nxAt_in]
  have hb := hr.2 _ (getD_mem h)
  have hn : Fr.nx ((⟨(Fr.row (bl ss)).toArray⟩ : ByteArray).data.toList.drop (endAt ss k)) = (0, (Fr.fr (ss.getD k ByteArray.empty).data.toList).length, (ss.getD k ByteArray.empty).data.toList) := by
    rw [show (⟨(Fr.row (bl ss)).toArray⟩ : ByteArray).data.toList = Fr.row (bl ss) from rfl, row_split h, List.drop_left' (by rfl)]
    exact Fr.nx_fr _ _ ⟨hb.1, by have := hb.2; show (ss.getD k ByteArray.empty).size ≤ 65536; omega⟩
  rw [nxVal_yes hn, ← endAt_succ h]
theorem row_le {ss : List ByteArray} (h : RowOk ss) : ∀ k, k ≤ ss.length → endAt ss k ≤ 400 * k := by
  intro k
  induction k with
  | zero => intro _; simp [endAt, bl, Fr.row]
  | succ k ih =>
    intro hk
    have h1 := ih (by omega)
    have hb := h.2 _ (getD_mem (show k < ss.length by omega))
    rw [endAt_succ (by omega), Fr.fr_len]
    have h2 := Vp.put_len_le (ss.getD k ByteArray.empty).data.toList.length
    have h3 : (ss.getD k ByteArray.empty).data.toList.length ≤ 300 := hb.2
    omega
theorem size_of_row {ss : List ByteArray} {k : Nat} (hr : RowOk ss) (h : k < ss.length) : sizeI ((ss.getD k ByteArray.empty).size : Int) = (endAt ss (k + 1) : Int) - (endAt ss k : Int) := by
  have hb := hr.2 _ (getD_mem h)
  have h1 := hb.1
  have h2 := hb.2
  rw [sizeI_yes (by omega), endAt_succ h, Fr.fr_len]
  have e : putI ((ss.getD k ByteArray.empty).size : Int) = Vp.put (ss.getD k ByteArray.empty).data.toList.length := by
    unfold putI; rw [if_neg (by omega)]; rfl
  rw [e]
  have e2 : (ss.getD k ByteArray.empty).data.toList.length = (ss.getD k ByteArray.empty).size := rfl
  omega

end Go.Proofs.Ytnkgbmfpfdadjaa
