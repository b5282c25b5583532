/-
  What the two Put functions answer: the number's bytes; nothing that was there is changed.
-/
import Derived.Test.YtcogeflljcefjaaVarPlain
import Derived.Test.YtcogeflljcefjaaProg
import Derived.WalkKit
import Derived.WalkSpells
import Derived.Laws.IdiomStrings
import Derived.Outline
namespace Go.Proofs.Ytcogeflljcefjaa
open Go.RowKit

/-- The bytes of any number: none below 0. -/
def putI (n : Int) : List UInt8 := if n < 0 then [] else Vp.put n.toNat

/-- What a loop that puts byte behind byte has when m is left. -/
def PutRel (n : Nat) (acc : List UInt8) (m : Nat) : Prop :=
  ∃ k, k ≤ 8 ∧ acc.length = k ∧ m < 2 ^ (7 * (9 - k)) ∧ acc ++ Vp.putF (9 - k) m = Vp.put n

theorem PutRel.start {n : Nat} (h : n ≤ 9223372036854775807) : PutRel n [] n :=
  ⟨0, by omega, rfl, by simp; omega, rfl⟩
theorem PutRel.len {n m : Nat} {acc : List UInt8} (h : PutRel n acc m) : acc.length ≤ 8 := by
  obtain ⟨k, hk, hl, _⟩ := h; omega
theorem PutRel.step {n m : Nat} {acc : List UInt8} (h : PutRel n acc m) (hm : 128 ≤ m) : PutRel n (acc ++ [UInt8.ofNat (128 + m % 128)]) (m / 128) := by
  obtain ⟨k, hk, hl, hb, he⟩ := h
  have hk8 : k < 8 := by
    rcases Nat.lt_or_ge k 8 with h | h
    · exact h
    · have : k = 8 := by omega
      subst this
      simp at hb
      omega
  obtain ⟨j, hj⟩ : ∃ j, 9 - k = j + 1 := ⟨8 - k, by omega⟩
  refine ⟨k + 1, by omega, by simp [hl], ?_, ?_⟩
  · rw [hj] at hb
    rw [show 9 - (k + 1) = j from by omega]
    have e1 : 2 ^ (7 * (j + 1)) = 128 * 2 ^ (7 * j) := by rw [show 7 * (j + 1) = 7 + 7 * j from by omega, Nat.pow_add]
    omega
  · rw [hj, Vp.putF_cons (by omega)] at he
    rw [show 9 - (k + 1) = j from by omega, List.append_assoc]
    exact he
theorem PutRel.done {n m : Nat} {acc : List UInt8} (h : PutRel n acc m) (hm : m < 128) : acc ++ [UInt8.ofNat m] = Vp.put n := by
  obtain ⟨k, hk, hl, hb, he⟩ := h
  obtain ⟨j, hj⟩ : ∃ j, 9 - k = j + 1 := ⟨8 - k, by omega⟩
  rw [hj, Vp.putF_one hm] at he
  exact he

theorem conv_one (w : World) (x : Int) : (convert 51 9 (.slice (some ⟨w.heap.size, 0, none⟩) 1 1)).run Try.prog (w.alloc (.cells #[.int .u8 x] 5)) =
    .ok (.string ⟨#[UInt8.ofNat x.toNat]⟩) (w.alloc (.cells #[.int .u8 x] 5)) := by
  rw [run_convert_bytes_string _ 51 9 5 _ _ _ Try.underlying51 Try.underlying5 Try.underlying9]
  rw [run_bytesToString _ _ 1 1 [x] (run_loadCells_list _ _ [Value.int .u8 x] (fun j v hj => cell_one_new w _ _ j v hj))]
  rfl

theorem str_snoc (acc : List UInt8) {b c : UInt8} (h : c = b) : Value.string ({ data := acc.toArray } ++ { data := #[b] }) = Value.string ⟨(acc ++ [c]).toArray⟩ := by
  subst h
  exact congrArg Value.string (ByteArray.mk_append_mk acc [c])

set_option maxRecDepth 100000 in
set_option maxHeartbeats 400000 in
theorem rput_any (n : Int) (w : World) (hlo : -9223372036854775808 ≤ n) (hhi : n ≤ 9223372036854775807) :
    Calls Try.prog 18 #[.int .i64 n] w fun e w' => e = .returned (.string ⟨(putI n).toArray⟩) ∧ Below w.heap.size w w' := by
  have hc1 := conv_one
  by_cases hn : n < 0
  · have e0 : putI n = [] := by unfold putI; rw [if_pos hn]
    rw [e0]
    go_enter Try.func18, Try.ntmps18
    go_wp2
    go_ret
    exact ⟨rfl, Below.refl _ _⟩
  · obtain ⟨n, rfl⟩ : ∃ k : Nat, n = (k : Int) := ⟨n.toNat, by omega⟩
    have e0 : putI n = Vp.put n := by unfold putI; rw [if_neg hn]; simp
    rw [e0]
    clear e0
    have hst := PutRel.start (n := n) (by omega)
    go_enter Try.func18, Try.ntmps18
    go_wp2
    go_loopw [0, 3] (fun a s wr => ∃ (m : Nat) (acc : List UInt8), m ≤ 9223372036854775807 ∧ a = .int .i64 m ∧ s = .string ⟨acc.toArray⟩ ∧ PutRel n acc m ∧ Below w.heap.size w wr)
      (fun a _ _ => (intOf a).toNat)
    case atStart => exact ⟨n, [], by omega, rfl, rfl, hst, Below.refl _ _⟩
    case round =>
      obtain ⟨m, acc, hm, rfl, rfl, hr, hb⟩ := hrel
      have hl := hr.len
      by_cases h128 : 128 ≤ m
      · go_wp2
        go_roundw
        case rel =>
          exact ⟨m / 128, acc ++ [UInt8.ofNat (128 + m % 128)], by omega, by go_num, str_snoc acc (by rw [UInt8.ofNat_add]; rfl), hr.step h128, hb.alloc hb.size _⟩
        case measure =>
          simp [intOf]; omega
      · go_wp2
        go_ret
        have hd := hr.done (m := m) (by omega)
        exact ⟨by rw [← hd]; exact congrArg Ending.returned (str_snoc acc rfl), hb.alloc hb.size _⟩

/-- Bytes as cells. -/
def byteCells (l : List UInt8) : List Value := l.map fun b => .int .u8 (b.toNat : Int)
theorem byteCells_len (l : List UInt8) : (byteCells l).length = l.length := by simp [byteCells]
theorem byteCells_snoc (l : List UInt8) (b : UInt8) : byteCells (l ++ [b]) = byteCells l ++ [.int .u8 (b.toNat : Int)] := by simp [byteCells]
theorem byteCells_one (l : List UInt8) : ∀ u ∈ byteCells l, u.oneCell' = true := by
  intro u hu
  unfold byteCells at hu
  rw [List.mem_map] at hu
  obtain ⟨b, _, rfl⟩ := hu
  rfl

/-- A row of the call's own, of bytes, as a string. -/
theorem conv_own {w : World} {base : Nat} {v : Value} {n : Nat} {l : List UInt8} (h : w.ownsRow base 5 1 v n (byteCells l)) :
    (convert 51 9 v).run Try.prog w = .ok (.string ⟨l.toArray⟩) w := by
  have hn : n = l.length := by have := h.1; rw [byteCells_len] at this; omega
  subst hn
  rcases h.2 with ⟨rfl, h0⟩ | ⟨g, cap, cur, rfl, h1⟩
  · have : l = [] := by simpa [byteCells] using h0
    subst this
    rw [run_convert_bytes_string _ 51 9 5 _ _ _ Try.underlying51 Try.underlying5 Try.underlying9]
    rfl
  · refine run_convert_bytes_back w 51 9 5 ⟨g, 0, none⟩ cap l Try.underlying51 Try.underlying5 Try.underlying9 (fun j hj => ?_)
    refine h.cells (g := g) rfl j _ ?_
    simp [byteCells, hj]

theorem own_snoc {w : World} {base : Nat} {v : Value} {acc : List UInt8} {x : Int} {c : UInt8} (h : w.ownsRow base 5 1 v (acc.length + 1) (byteCells acc ++ [.int .u8 x])) (hx : x = (c.toNat : Int)) :
    w.ownsRow base 5 1 v (acc ++ [c]).length (byteCells (acc ++ [c])) := by
  subst hx
  rw [byteCells_snoc, List.length_append]
  exact h

theorem make_nine (w : World) : (Instr.makeSlice 51 (.int .i64 0) (.int .i64 9)).run Try.prog w =
    .ok (.slice (some ⟨w.heap.size, 0, none⟩) 0 9) (w.alloc (.cells #[.int .u8 0, .int .u8 0, .int .u8 0, .int .u8 0, .int .u8 0, .int .u8 0, .int .u8 0, .int .u8 0, .int .u8 0] 5)) := by kernel_rfl

theorem info_u8 : (Try.prog.info? 5).map (fun i => (i.zero, i.size, i.bytes)) = some (some (.int .u8 0), 1, 1) := by kernel_rfl

set_option maxRecDepth 100000 in
set_option maxHeartbeats 400000 in
theorem put_any (n : Int) (w : World) (hlo : -9223372036854775808 ≤ n) (hhi : n ≤ 9223372036854775807) :
    Calls Try.prog 15 #[.int .i64 n] w fun e w' => e = .returned (.string ⟨(putI n).toArray⟩) ∧ Below w.heap.size w w' := by
  have hmk := make_nine
  obtain ⟨i0, hi, hz0, hz1, hz2⟩ := info_parts info_u8
  by_cases hn : n < 0
  · have e0 : putI n = [] := by unfold putI; rw [if_pos hn]
    rw [e0]
    go_enter Try.func15, Try.ntmps15
    go_wp2
    go_ret
    exact ⟨rfl, Below.refl _ _⟩
  · obtain ⟨n, rfl⟩ : ∃ k : Nat, n = (k : Int) := ⟨n.toNat, by omega⟩
    have e0 : putI n = Vp.put n := by unfold putI; rw [if_neg hn]; simp
    rw [e0]
    clear e0
    have hst := PutRel.start (n := n) (by omega)
    go_enter Try.func15, Try.ntmps15
    go_wp2
    go_loopw [0, 3] (fun a v wr => ∃ (m : Nat) (acc : List UInt8), m ≤ 9223372036854775807 ∧ a = .int .i64 m ∧ wr.ownsRow w.heap.size 5 1 v acc.length (byteCells acc) ∧ PutRel n acc m ∧ Below w.heap.size w wr)
      (fun a _ _ => (intOf a).toNat)
    case atStart =>
      exact ⟨n, [], by omega, rfl, World.ownsRow_made w _ 9 (Nat.le_refl _) (by decide) rfl, hst, (Below.refl _ _).alloc (Nat.le_refl _) _⟩
    case round =>
      obtain ⟨m, acc, hm, rfl, hown, hr, hb⟩ := hrel
      have hl := hr.len
      by_cases h128 : 128 ≤ m
      · go_wp2_with (at_builtin; refine wpList_append_own _ rfl _ _ 51 rfl w.heap.size 5 i0 (.int .u8 0) 1 1 Try.underlying51 hi hz0 hz1 hz2 rfl (by decide) _ _ _ rfl (hown.alloc _) ⟨wr.heap.size, 0, none⟩ 1 1 [.int .u8 ((m : Int) % 128 + 128)] rfl rfl (cell_one_new _ _ _) (fun x hx => by simp at hx; subst hx; rfl) (by unfold maxLen; omega) (by omega) (by simp; have := hb.size; omega) ?_; intro v' w3 hown' hgrow3 hnil3)
        go_roundw
        case rel =>
          exact ⟨m / 128, acc ++ [UInt8.ofNat (128 + m % 128)], by omega, by go_num, own_snoc hown' (by rw [Vp.ofNat_toNat_lt _ (by omega)]; omega), hr.step h128, (hb.alloc hb.size _).grown hgrow3 (by simp; have := hb.size; omega) (fun q hq => (hown.lt q hq).1)⟩
        case measure =>
          simp [intOf]; omega
      · go_wp2_with (at_builtin; refine wpList_append_own _ rfl _ _ 51 rfl w.heap.size 5 i0 (.int .u8 0) 1 1 Try.underlying51 hi hz0 hz1 hz2 rfl (by decide) _ _ _ rfl (hown.alloc _) ⟨wr.heap.size, 0, none⟩ 1 1 [.int .u8 m] rfl rfl (cell_one_new _ _ _) (fun x hx => by simp at hx; subst hx; rfl) (by unfold maxLen; omega) (by omega) (by simp; have := hb.size; omega) ?_; intro v' w3 hown' hgrow3 hnil3; have hcv := conv_own (own_snoc (c := UInt8.ofNat m) hown' (by rw [Vp.ofNat_toNat_lt _ (by omega)])))
        go_ret
        have hd := hr.done (m := m) (by omega)
        exact ⟨by rw [← hd]; rfl, (hb.alloc hb.size _).grown hgrow3 (by simp; have := hb.size; omega) (fun q hq => (hown.lt q hq).1)⟩

end Go.Proofs.Ytcogeflljcefjaa
