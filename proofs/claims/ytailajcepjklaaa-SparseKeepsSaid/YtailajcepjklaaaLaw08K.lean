/-
  What SparseKeeps answers: true, whatever it is given; nothing that was there is changed.
-/
import Derived.Test.YtailajcepjklaaaLaw08A
import Derived.Test.YtailajcepjklaaaMarkEq
import Derived.Test.YtailajcepjklaaaMarkKeep
import Derived.Test.YtailajcepjklaaaApart
namespace Go.Proofs.Ytailajcepjklaaa.Mks
open Go.RowKit Go.Proofs.Ytailajcepjklaaa.Mp

theorem own_sl {w : World} {B : Nat} {v : Value} {l : List Mk} (h : OwnL ML w B v l) : ∃ a c, v = .slice a l.length c := by
  rcases h.2 with ⟨rfl, h0⟩ | ⟨g, cap, cur, rfl, _⟩
  · rw [show l.length = 0 from h0]
    exact ⟨none, 0, rfl⟩
  · exact ⟨_, _, rfl⟩


set_option maxRecDepth 100000 in
set_option maxHeartbeats 1600000 in
theorem keeps_long (b n0 : Int) (a : Option Addr) (len cap : Nat) (w : World) (h : 300 < len) (hl : len ≤ 9223372036854775807) :
    Calls Try.prog 4 #[.int .u16 b, .int .u8 n0, .slice a len cap] w fun e w' => e = .returned (.bool true) ∧ Below w.heap.size w w' := by
  have i3 : (300 : Int) < (len : Int) := by omega
  go_enter Try.func4, Try.ntmps4
  go_wp2_with fail
  refine (awake08 _).mono ?_
  rintro e w1 ⟨rfl, b1⟩
  go_wp2_with fail
  go_ret
  exact ⟨rfl, b1⟩

set_option maxRecDepth 100000 in
set_option maxHeartbeats 3200000 in
theorem keeps_short (b n0 : Int) (a : Option Addr) (len cap : Nat) (z : List Int) (w : World) (h : len ≤ 300) (hb : 0 ≤ b ∧ b ≤ 65535) (hn : 0 ≤ n0 ∧ n0 ≤ 255) (hz : ∀ x ∈ z, 0 ≤ x ∧ x ≤ 255) (hzl : len ≤ z.length)
    (hrow : 0 < len → ∃ g off, a = some ⟨g, off, none⟩ ∧ ∀ i, i < len → w.cell? ⟨g, off + i, none⟩ = some (.int .u8 (z.getD i 0))) :
    Calls Try.prog 4 #[.int .u16 b, .int .u8 n0, .slice a len cap] w fun e w' => e = .returned (.bool true) ∧ Below w.heap.size w w' := by
  obtain ⟨i0, hi0, hz0, hz1, hz2⟩ := info_parts info_mk
  obtain ⟨n, hnn⟩ : ∃ n : Nat, 1 + n0 = (n : Int) := ⟨(1 + n0).toNat, by omega⟩
  obtain ⟨hb1, hb2⟩ := hb
  have hn1 : 1 ≤ n := by omega
  have hn2 : n ≤ 256 := by omega
  obtain ⟨hn3, hn4⟩ := hn
  have HROW := Lib.hid hrow
  have HZ := Lib.hid hz
  have HZL := Lib.hid hzl
  have HPL := Lib.hid (pos_le hz)
  have i4 : ¬ ((300 : Int) < (len : Int)) := by omega
  have MKB := Lib.hid (show ∀ j, j ≤ 1000000 → MkB (mkOf b z j) from fun j hj => by
    have := pos_le hz j
    exact ⟨⟨by show _ ≤ b + (j : Int); omega, by show b + (j : Int) ≤ _; omega⟩, ⟨by show _ ≤ pos z j; omega, by show pos z j ≤ _; omega⟩⟩)
  have OKA := Lib.hid (show ∀ k, k ≤ 300 → ∀ m ∈ allM b z k, MkB m from fun k hk m hm => by
    unfold allM at hm
    rw [List.mem_map] at hm
    obtain ⟨j, hj, rfl⟩ := hm
    rw [List.mem_range] at hj
    exact MKB.out j (by omega))
  have OKK := Lib.hid (show ∀ k, k ≤ 300 → ∀ m ∈ keptM b z n k, MkB m from fun k hk m hm => by
    unfold keptM at hm
    rw [List.mem_map] at hm
    obtain ⟨j, hj, rfl⟩ := hm
    rw [List.mem_range] at hj
    have h1 : (k + n - 1) / n ≤ k + n - 1 := Nat.div_le_self _ _
    have h2 : j * n ≤ 1000 * n := Nat.mul_le_mul_right _ (by omega)
    exact MKB.out _ (by omega))
  clear hrow hz hzl
  go_enter Try.func4, Try.ntmps4
  go_wp2_with fail
  go_loopw [9, 10, 11, 12] (fun v9 v10 p i wr => ∃ k : Nat, k ≤ len ∧ i = .int .i64 k ∧ p = .int .i64 (pos z k) ∧ OwnL ML wr w.heap.size v9 (keptM b z n k) ∧ OwnL ML wr w.heap.size v10 (allM b z k) ∧ Apart v9 v10 ∧ Below w.heap.size w wr) (fun _ _ _ i _ => len - (intOf i).toNat)
  case atStart =>
    refine ⟨0, Nat.zero_le _, rfl, rfl, ?_, OwnL.nil _ _, (fun q h => by cases h), Below.refl _ _⟩
    have e : keptM b z n 0 = [] := by
      unfold keptM
      rw [Nat.div_eq_of_lt (by omega)]; rfl
    rw [e]
    exact OwnL.nil _ _
  case round =>
    obtain ⟨k, hk, rfl, rfl, hK, hA, hap, bel⟩ := hrel
    have HAP := Lib.hid hap
    clear hap
    have HK := Lib.hid hK
    have HA := Lib.hid hA
    have HBel := Lib.hid bel
    have hsz := bel.size
    obtain ⟨ka, kc, rfl⟩ := own_sl hK
    have HKL := Lib.hid (keptM_len b z n k)
    have HAL := Lib.hid (allM_len b z k)
    by_cases hlt : k < len
    · obtain ⟨g, off, rfl, hcell⟩ := HROW.out (by omega)
      have hck := hcell k hlt
      have hzk : 0 ≤ z.getD k 0 ∧ z.getD k 0 ≤ 255 := by
        have hkz : k < z.length := Nat.lt_of_lt_of_le hlt HZL.out
        have e : z.getD k 0 = z[k] := by simp [List.getD_eq_getElem?_getD, hkz]
        rw [e]; exact HZ.out _ (List.getElem_mem hkz)
      have hgw := block_lt_of_cell hck
      have HPS := Lib.hid (show pos z (k + 1) = pos z k + 1 + z.getD k 0 from rfl)
      obtain ⟨hp1, hp2⟩ := HPL.out k
      generalize z.getD k 0 = s at *
      have hml : (mkOf b z k).o = b + (k : Int) := rfl
      have AD := fun (W : World) (h : Below wr.heap.size wr W) => add08_any (.slice ka (keptM b z n k).length kc) (keptM b z n k) b (n : Int) (mkOf b z k) W ((HK.out.keep h).is (by rw [HKL.out]; have : (k + n - 1) / n ≤ k + n - 1 := Nat.div_le_self _ _; unfold maxLen; omega) (OKK.out k (by omega))) (own_nil HK.out) (own_cap HK.out) (by rw [HKL.out]; have : (k + n - 1) / n ≤ k + n - 1 := Nat.div_le_self _ _; omega) hb1 (by rw [hml]; omega) (by omega) (by rw [hml]; omega) (by omega)
      rw [← keptM_succ hn1] at AD
      unfold mkVal mkOf at AD
      dsimp only at AD
      have HQ := Lib.hid (count_step (k := k) hn1)
      have HQ1 := Lib.hid (show (keptM b z n k).length ≤ (keptM b z n (k + 1)).length ∧ (keptM b z n (k + 1)).length ≤ (keptM b z n k).length + 1 ∧ (keptM b z n (k + 1)).length ≤ 1000 by
        have h1 := keptM_len b z n k
        have h2 := keptM_len b z n (k + 1)
        have h3 := HQ.out.1
        have h4 := HQ.out.2
        have h5 : (k + 1 + n - 1) / n ≤ k + 1 + n - 1 := Nat.div_le_self _ _
        rw [h1, h2]
        split at h4 <;> omega)
      have OKN := Lib.hid (OKK.out (k + 1) (by omega))
      have HALS := Lib.hid (show allM b z (k + 1) = allM b z k ++ [(⟨b + (k : Int), pos z k⟩ : Mk)] from allM_succ b z k)
      generalize pos z k = P at *
      replace AD := Lib.hid AD
      have hG := heap_alloc_new wr (.cells #[.int .i64 (b + (k : Int)), .int .i64 P] 24)
      have HG := Lib.hid hG
      have hB1 := (Below.refl _ wr).alloc (Nat.le_refl _) (.cells #[.int .i64 (b + (k : Int)), .int .i64 P] 24)
      have HB1 := Lib.hid hB1
      have A1 := Lib.hid ((AD.out _ hB1).mono fun e w' (hq : AddOut _ _ _ _ e w') => (show ∃ v', e = .returned v' ∧ OwnL ML w' w.heap.size v' (keptM b z n (k + 1)) ∧ Below (wr.alloc (.cells #[.int .i64 (b + (k : Int)), .int .i64 P] 24)).heap.size (wr.alloc (.cells #[.int .i64 (b + (k : Int)), .int .i64 P] 24)) w' ∧ Apart v' u10 from by
        obtain ⟨v', h1, h2, h3, h4⟩ := hq.own (HK.out.keep hB1) (Nat.le_trans hsz hB1.size)
        refine ⟨v', h1, h2, h3, ?_⟩
        rcases h4 with rfl | h4
        · exact HAP.out
        · intro q hq e
          have h5 := h4 q hq
          have h6 := (HA.out.lt q e).2
          simp at h5
          omega))
      clear hG hB1 hK hA hcell HQ hml
      obtain ⟨L, hL⟩ : ∃ L, (keptM b z n k).length = L := ⟨_, rfl⟩
      rw [hL] at HQ1 A1 ⊢
      clear hL AD
      go_wp2_with fail
      refine A1.out.mono ?_
      rintro e w2 ⟨v1, rfl, ho1, b2, hap1⟩
      have HAP1 := Lib.hid hap1
      obtain ⟨na, nc, rfl⟩ := own_sl ho1
      have HO1 := Lib.hid ho1
      have HB2 := Lib.hid (HB1.out.trans (b2.mono HB1.out.size))
      have h2 := hkeep2 HG.out b2
      obtain ⟨c0, c1⟩ : w2.cell? ⟨wr.heap.size, 0, none⟩ = some (.int .i64 (b + (k : Int))) ∧ w2.cell? ⟨wr.heap.size, 1, none⟩ = some (.int .i64 P) := ⟨by rw [cell_of_row _ _ 0 _ _ _ h2]; rfl, by rw [cell_of_row _ _ 1 _ _ _ h2]; rfl⟩
      have hl2 := (Array.getElem?_eq_some_iff.1 h2).1
      have HAX := Lib.hid (HA.out.keep HB2.out)
      have HOX := Lib.hid (show (w2.alloc (.cells (mkCells ⟨b + (k : Int), P⟩).toArray 24)).ownsRow w.heap.size 24 2 u10 (allM b z k).length (ML.vals (allM b z k)) from HAX.out.alloc _)
      have HNEW := Lib.hid (news_new w2 w2.heap.size (mkCells ⟨b + (k : Int), P⟩) 24 rfl)
      have H1C := Lib.hid (show ∀ u ∈ mkCells ⟨b + (k : Int), P⟩, u.oneCell' = true from ML.one ⟨b + (k : Int), P⟩)
      have HW2 := Lib.hid (HBel.out.trans (HB2.out.mono hsz))
      have HLA := Lib.hid fun q (hq : u10.ownBlock = some q) => HA.out.lt q hq
      have HFA : Hid (∀ v' w3, w3.ownsRow w.heap.size 24 2 v' ((allM b z k).length + 1) (ML.vals (allM b z k) ++ mkCells ⟨b + (k : Int), P⟩) → OwnL ML w3 w.heap.size v' (allM b z k ++ [⟨b + (k : Int), P⟩])) := fun v' w3 h => OwnL.snoc (n := (allM b z k).length) h rfl rfl
      have hal : (allM b z k).length ≤ 300 := by rw [HAL.out]; omega
      obtain ⟨L2, hL2⟩ : ∃ L2, (keptM b z n (k + 1)).length = L2 := ⟨_, rfl⟩
      rw [hL2] at HQ1 HAP1 ⊢
      have HL2 := Lib.hid hL2
      obtain ⟨q1, q2, q3⟩ := HQ1.out
      generalize hxs : ML.vals (allM b z k) = xs at *
      generalize hll : (allM b z k).length = ll at *
      clear hxs hll ho1 b2 h2 hL2 A1 hap1
      go_wp2_with (at_builtin; refine wpList_append_where _ rfl _ _ 22 rfl w.heap.size 24 i0 (.agg #[.int .i64 0, .int .i64 0]) 2 16 Try.underlying22 hi0 hz0 hz1 hz2 rfl (by decide) _ _ _ rfl HOX.out ⟨w2.heap.size, 0, none⟩ 1 1 (mkCells ⟨b + (k : Int), P⟩) rfl rfl HNEW.out H1C.out (by decide) (by unfold maxLen; omega) (by omega) (by simp; omega) ?_; intro v' w4 hown' hgrow4 hnil4; have HMV := Lib.hid hnil4; have HO4 := Lib.hid hown'; have HG4 := Lib.hid hgrow4; have HB4 := Lib.hid ((HW2.out.alloc HW2.out.size (.cells (mkCells ⟨b + (k : Int), P⟩).toArray 24)).grown hgrow4 (by simp; have := HW2.out.size; omega) (fun q hq => (HLA.out q hq).1)); have hx4 := (HB4.out.cell (p := ⟨g, off + k, none⟩) hgw).trans hck; have hg4 := block_lt_of_cell hx4; clear hown' hgrow4 hnil4)
      have HK4 : OwnL ML w4 w.heap.size (.slice na L2 nc) (keptM b z n (k + 1)) := by
        have hx := HO1.out
        rw [HL2.out] at hx
        refine World.ownsRow.kept (hx.alloc _) HG4.out ?_
        cases hq : (Value.slice na L2 nc).ownBlock with
        | none => exact .inl rfl
        | some q => exact .inr fun e => HAP1.out q hq e.symm
      have HAP4 : Apart (.slice na L2 nc) v' := by
        intro q hq e
        rcases HMV.out with h | h
        · exact HAP1.out q hq (h.symm.trans e)
        · have h1 := h q e
          have hx := HO1.out
          rw [HL2.out] at hx
          have h2 := (hx.lt q hq).2
          simp at h1
          omega
      replace HAP4 := Lib.hid HAP4
      replace HK4 := Lib.hid HK4
      go_roundw
      case rel => exact ⟨k + 1, by omega, by go_num, by rw [HPS.out], HK4.out, by rw [HALS.out]; exact HFA.out _ _ HO4.out, HAP4.out, HB4.out⟩
      case measure => simp [intOf]; omega
    · obtain rfl : k = len := by omega
      obtain ⟨aa, ac, rfl⟩ := own_sl hA
      have hKI := hK.is (by rw [keptM_len]; have : (k + n - 1) / n ≤ k + n - 1 := Nat.div_le_self _ _; unfold maxLen; omega) (OKK.out k (by omega))
      have hAI := hA.is (by rw [allM_len]; unfold maxLen; omega) (OKA.out k (by omega))
      have HKI := Lib.hid hKI
      have HAI := Lib.hid hAI
      have hz' := HZ.out
      have hRT : Right (keptM b z n k) := keptM_right hb1 hn1 hz'
      have RT := Lib.hid (right08_any _ _ true wr hKI ⟨fun _ => hRT, fun _ => rfl⟩)
      have FD := fun (i : Nat) (hi : i < k) (W : World) (h : Below wr.heap.size wr W) => find08_any _ (keptM b z n k) (b + (i : Int)) (i / n + 1) W (hKI.keep h) (keptM_split hn1 hi)
      have F0 := fun (W : World) (h : Below wr.heap.size wr W) => find08_any _ (keptM b z n k) (b - 1) 0 W (hKI.keep h) keptM_none
      unfold fndVal at FD F0
      dsimp only at FD F0
      replace FD := Lib.hid FD
      replace F0 := Lib.hid F0
      have hlen : (keptM b z n k).length = (k + n - 1) / n := keptM_len b z n k
      have hdiv : ((k : Int) + (n : Int) - 1) / (n : Int) = (((keptM b z n k).length : Nat) : Int) := by
        rw [hlen, Int.natCast_ediv, show (((k + n - 1 : Nat)) : Int) = (k : Int) + (n : Int) - 1 from by omega]
      have HAT := Lib.hid fun i (hi : i < k) => allM_at b z hi
      have HKAT := Lib.hid fun i (hi : i < k) => keptM_at b z n (k := k) (i := i / n) (show i / n < (k + n - 1) / n by have := (keptM_split (b := b) (z := z) hn1 hi).1; rw [hlen] at this; omega)
      clear hlen hK hA hKI hAI hz' hRT HK HA
      obtain ⟨L, hL⟩ : ∃ L, (keptM b z n k).length = L := ⟨_, rfl⟩
      rw [hL] at HKI RT FD F0 hdiv ⊢
      rw [HAL.out] at HAI ⊢
      have hLn : L ≤ 1000 := by
        have h1 := HKL.out
        rw [hL] at h1
        have : (k + n - 1) / n ≤ k + n - 1 := Nat.div_le_self _ _
        omega
      clear hL HKL HAL
      go_wp2_with fail
      refine RT.out.mono ?_
      rintro e w5 ⟨rfl, b5⟩
      have FD5 := Lib.hid fun (i : Nat) (hi : i < k) (W : World) (h : Below w5.heap.size w5 W) => FD.out i hi W (b5.trans (h.mono b5.size))
      have F05 := Lib.hid fun (W : World) (h : Below w5.heap.size w5 W) => F0.out W (b5.trans (h.mono b5.size))
      have HAI5 := Lib.hid (HAI.out.keep b5)
      have HB5 := Lib.hid (bel.trans (b5.mono hsz))
      clear b5 RT FD F0 HAI HKI
      go_wp2_with fail
      go_loopw [15] (fun j wi => ∃ i : Nat, i ≤ k ∧ j = .int .i64 i ∧ Below w5.heap.size w5 wi) (fun j _ => k - (intOf j).toNat)
      case atStart => exact ⟨0, Nat.zero_le _, rfl, Below.refl _ _⟩
      case round =>
        obtain ⟨i, hi, rfl, bi⟩ := hrel
        have HBi := Lib.hid bi
        by_cases hil : i < k
        · obtain ⟨g2, o2, rfl, c0, c1⟩ := mk_at (HAI5.out.keep bi) hil
          rw [HAT.out i hil] at c0 c1
          have F := FD5.out i hil wr bi
          rw [HKAT.out i hil] at F
          have hd := Nat.div_add_mod i n
          have hm := Nat.mod_lt i (show 0 < n by omega)
          obtain ⟨K, hK⟩ : ∃ K, i / n * n = K := ⟨_, rfl⟩
          rw [hK] at F
          have hKi : K ≤ i := by rw [← hK, Nat.mul_comm]; omega
          have hKn : i - K < n := by rw [← hK, Nat.mul_comm]; omega
          obtain ⟨g3, o3, e, u0, u1⟩ := mk_at (HAI5.out.keep bi) (show K < k by omega)
          obtain ⟨rfl, rfl⟩ : g2 = g3 ∧ o2 = o3 := by simpa using e
          rw [HAT.out K (by omega)] at u0 u1
          change wr.cell? _ = some (.int .i64 (b + (i : Int))) at c0
          change wr.cell? _ = some (.int .i64 (b + (K : Int))) at u0
          change wr.cell? _ = some (.int .i64 (pos z K)) at u1
          unfold mkOf at F
          dsimp only at F
          generalize pos z K = PK at *
          replace F := Lib.hid F
          have hg2 := block_lt_of_cell u0
          clear e hd hm hK c1
          go_wp2_with fail
          refine F.out.mono ?_
          rintro e w6 ⟨rfl, b6⟩
          have B6 := Lib.hid (HBi.out.trans (b6.mono HBi.out.size))
          have x0 := (b6.cell (p := ⟨g2, o2 + K * 2, none⟩) hg2).trans u0
          have x1 := (b6.cell (p := ⟨g2, o2 + K * 2 + 1, none⟩) hg2).trans u1
          have hg6 := block_lt_of_cell x0
          have G6 := Lib.hid (heap_alloc_new w6 (.cells #[.int .i64 (b + (K : Int)), .int .i64 PK] 24))
          have B7 := Lib.hid (B6.out.alloc B6.out.size (.cells #[.int .i64 (b + (K : Int)), .int .i64 PK] 24))
          have e1 : decide (i < K) = false := by simp; omega
          have e2 : decide ((n : Int) ≤ (i : Int) - (K : Int)) = false := by simp; omega
          have hww : IntKind.i64.wrap ((i : Int) - (K : Int)) = (i : Int) - (K : Int) := IntWalk.i64_in _ ⟨by omega, by omega⟩
          have hKk : K < k := by omega
          have hbk : b + (K : Int) - b = (K : Int) := by omega
          clear b6 u0 u1 c0
          go_wp2_with fail
          go_quiet (fail)
          go_wp2_with fail
          go_roundw
          case rel => exact ⟨i + 1, by clear hww hbk; omega, by go_num, B7.out.trans ((bel_drewN _).mono B7.out.size)⟩
          case measure => clear hww hbk; simp [intOf]; omega
        · have F := Lib.hid (F05.out wr bi)
          go_wp2_with fail
          refine F.out.mono ?_
          rintro e w6 ⟨rfl, b6⟩
          have B6 := Lib.hid ((HB5.out.trans ((HBi.out.trans (b6.mono HBi.out.size)).mono HB5.out.size)).alloc (by have := HB5.out.size; have := HBi.out.size; have := b6.size; omega) (.cells #[.int .i64 0, .int .i64 0] 24))
          clear b6
          go_wp2_with fail
          refine (awake08 _).mono ?_
          rintro e w8 ⟨rfl, b8⟩
          go_wp2_with fail
          go_ret
          exact ⟨rfl, B6.out.trans (b8.mono B6.out.size)⟩

end Go.Proofs.Ytailajcepjklaaa.Mks
