/-
  What FrameTurned answers: true, whatever it is given; nothing that was there is changed.
-/
import Derived.Test.YtnkgbmfpfdadjaaLaw03T
import Derived.Test.YtnkgbmfpfdadjaaBytesAt
namespace Go.Proofs.Ytnkgbmfpfdadjaa
open Go.RowKit

/-- A body that the law passes by. -/
def Passed (s : ByteArray) (x : Int) : Prop := 300 < (s.size : Int) ∨ (s.size : Int) < 1 ∨ x = 0

theorem put_err (s : ByteArray) : ∃ (f : ByteArray) (e : Int), (1 ≤ (s.size : Int) → (s.size : Int) ≤ 300 → e = 0) ∧ ((s.size : Int) < 1 → e = 5) ∧
    ∀ W : World, Calls Try.prog 9 #[.string s] W fun x W' => x = .returned (.tuple #[.string f, .int .i64 e]) ∧ Below W.heap.size W W' := by
  by_cases h : Fr.May s.size
  · exact ⟨_, 0, fun _ _ => rfl, fun h1 => by have := h.1; omega, fun W => fput_yes s W h⟩
  · exact ⟨_, 5, fun h1 h2 => absurd ⟨by omega, by omega⟩ h, fun _ => rfl, fun W => (fput_no s W h).mono fun _ _ ⟨he, hw⟩ => ⟨he, hw ▸ Below.refl _ _⟩⟩

set_option maxRecDepth 100000 in
set_option maxHeartbeats 800000 in
theorem turned_out (s : ByteArray) (m x : Int) (w : World) (h : Passed s x) :
    Calls Try.prog 7 #[.string s, .int .u16 m, .int .u8 x] w fun e w' => e = .returned (.bool true) ∧ Below w.heap.size w w' := by
  obtain ⟨f, er, h0, h5, hp⟩ := put_err s
  have HP := Lib.hid hp
  clear hp
  by_cases h1 : 300 < (s.size : Int)
  · clear h h0 h5
    go_enter Try.func7, Try.ntmps7
    go_wp2_with fail
    refine (HP.out _).mono ?_
    rintro e w1 ⟨rfl, b1⟩
    go_wp2_with fail
    refine (awake03 _).mono ?_
    rintro e w3 ⟨rfl, hbel⟩
    go_wp2_with fail
    go_ret
    exact ⟨rfl, bel_trans2 b1 hbel⟩
  · have h1' : decide (300 < (s.size : Int)) = false := by simpa using h1
    by_cases h2 : (s.size : Int) < 1
    · have e5 := h5 h2
      subst e5
      clear h h0 h1 h5
      go_enter Try.func7, Try.ntmps7
      go_wp2_with fail
      refine (HP.out _).mono ?_
      rintro e w1 ⟨rfl, b1⟩
      go_wp2_with fail
      refine (awake03 _).mono ?_
      rintro e w3 ⟨rfl, hbel⟩
      go_wp2_with fail
      go_ret
      exact ⟨rfl, bel_trans2 b1 hbel⟩
    · have h3 : x = 0 := by unfold Passed at h; omega
      subst h3
      have e0 := h0 (by omega) (by omega)
      subst e0
      clear h h0 h1 h5
      go_enter Try.func7, Try.ntmps7
      go_wp2_with fail
      refine (HP.out _).mono ?_
      rintro e w1 ⟨rfl, b1⟩
      go_wp2_with fail
      refine (awake03 _).mono ?_
      rintro e w3 ⟨rfl, hbel⟩
      go_wp2_with fail
      go_ret
      exact ⟨rfl, bel_trans2 b1 hbel⟩

theorem xor_byte (c : UInt8) {x : Nat} (hx : x < 256) : (bits .xor .u8 (c.toNat : Int) (x : Int) = ((UInt8.ofNat (c.toNat ^^^ x)).toNat : Int)) ∧ (UInt8.ofNat (c.toNat ^^^ x)).toNat = c.toNat ^^^ x := by
  have hc := c.toNat_lt
  have h : c.toNat ^^^ x < 2 ^ 8 := Nat.xor_lt_two_pow (show c.toNat < 2 ^ 8 from by omega) (show x < 2 ^ 8 from hx)
  have e : (UInt8.ofNat (c.toNat ^^^ x)).toNat = c.toNat ^^^ x := by
    rw [UInt8.toNat_ofNat']
    exact Nat.mod_eq_of_lt h
  refine ⟨?_, e⟩
  rw [e]
  exact u8_xor_nat c.toNat x (by omega) hx

theorem turned_nx {l F : List UInt8} {P K x : Nat} {c : UInt8} (hF : Fr.fr l = F) (hP : (Vp.put l.length).length = P) (hm : Fr.May l.length) (hK1 : P ≤ K) (hK2 : K < F.length) (hc : c.toNat = F[K].toNat ^^^ x) (h0 : 0 < x) (hx : x < 256) :
    nxAt ⟨(F.set K c).toArray⟩ 0 = .tuple #[.string ⟨#[]⟩, .int .i64 0, .int .i64 4] := by
  subst hF; subst hP
  have e := nxAt_in ⟨((Fr.fr l).set K c).toArray⟩ 0
  refine e.trans (nxVal_no (e := 4) ?_ (by omega))
  exact Fr.nx_turned l K x hm hK1 hK2 c hc h0 hx

set_option maxRecDepth 100000 in
set_option maxHeartbeats 1600000 in
theorem turned_in (s : ByteArray) (m x : Nat) (w : World) (h1 : 1 ≤ s.size) (h3 : s.size ≤ 300) (hm : m ≤ 65535) (hx0 : 0 < x) (hx : x < 256) :
    Calls Try.prog 7 #[.string s, .int .u16 (m : Int), .int .u8 (x : Int)] w fun e w' => e = .returned (.bool true) ∧ Below w.heap.size w w' := by
  have HM : Hid (Fr.May s.data.toList.length) := Lib.hid ⟨h1, by show s.size ≤ 65536; omega⟩
  have HP := Lib.hid fun W : World => fput_yes s W ⟨h1, by omega⟩
  have hfl := Fr.fr_len s.data.toList
  have hpl := Vp.put_len_le s.data.toList.length
  have hpp := Vp.put_len_pos s.size
  have hlen : s.data.toList.length = s.size := rfl
  rw [hlen] at hfl
  have hpl' : (Vp.put s.size).length ≤ 9 := by rw [hlen] at hpl; exact hpl
  obtain ⟨P, hP⟩ : ∃ P, (Vp.put s.size).length = P := ⟨_, rfl⟩
  have HPL : Hid ((Vp.put s.data.toList.length).length = P) := Lib.hid (by rw [hlen]; exact hP)
  rw [hP] at hfl hpl' hpp
  obtain ⟨F, hF⟩ : ∃ F, Fr.fr s.data.toList = F := ⟨_, rfl⟩
  have HT := Lib.hid fun K (c : UInt8) => @turned_nx s.data.toList F P K x c hF HPL.out HM.out
  rw [hF] at HP hfl
  clear hF hlen hP hpl
  obtain ⟨d, hd⟩ : ∃ d, m % (s.size + 4) = d := ⟨_, rfl⟩
  have hd2 : d < s.size + 4 := by rw [← hd]; exact Nat.mod_lt _ (by omega)
  have hd3 : (m : Int) % ((s.size : Int) + 4) = (d : Int) := by rw [← hd]; simp
  clear hd
  obtain ⟨K, hK⟩ : ∃ K, P + d = K := ⟨_, rfl⟩
  have HK := Lib.hid hK
  have hK2 : K < F.length := by omega
  have hsum : (F.length : Int) - (s.size : Int) - 4 + (d : Int) = (K : Int) := by omega
  have hLb : F.length ≤ 400 := by omega
  have h5 : (s.size : Int) + 5 ≤ (F.length : Int) := by omega
  have hne : ((x : Int) == 0) = false := by rw [beq_eq_false_iff_ne]; omega
  have h3' : decide (300 < (s.size : Int)) = false := by simp; omega
  have h1' : 1 ≤ (s.size : Int) := by omega
  have h3'' : (s.size : Int) ≤ 300 := by omega
  clear hK hfl hpl' hpp h1 h3
  go_enter Try.func7, Try.ntmps7
  go_wp2_with fail
  refine (HP.out _).mono ?_
  rintro e w1 ⟨rfl, b1⟩
  obtain ⟨cap, W, hcv, hBA, hbW, hlW⟩ := bytes_of w1 ⟨F.toArray⟩
  rw [size_mk_list] at hcv
  obtain ⟨hcell, hfr⟩ := hBA K hK2
  obtain ⟨hx1, hx2⟩ := xor_byte F[K] hx
  have HX2 := Lib.hid hx2
  have hnx := HT.out K (UInt8.ofNat (F[K].toNat ^^^ x)) (by have := HK.out; omega) hK2 hx2 hx0 hx
  have hset := hBA.set hK2 (UInt8.ofNat (F[K].toNat ^^^ x))
  have HNX := Lib.hid hnx
  have HSET := Lib.hid hset
  have HBA := Lib.hid hBA
  clear hnx hset hBA hx2 HT
  generalize UInt8.ofNat (F[K].toNat ^^^ x) = c at hx1 HNX HSET HX2
  generalize F[K] = c0 at hx1 hcell HX2
  have hi1 : (K : Int) < (F.length : Int) := by omega
  have hcv2 := HSET.out.conv cap
  rw [List.length_set] at hcv2
  have C2 := fun W : World => fnext_any ⟨(F.set K c).toArray⟩ 0 W (by rw [size_mk_list, List.length_set]; omega)
  rw [HNX.out] at C2
  have C2 := Lib.hid C2
  have HW := Lib.hid (hbW.setCell (p := ⟨w1.heap.size, K, none⟩) (Nat.le_refl _) (.int .u8 (c.toNat : Int)))
  go_wp2_with fail
  refine (C2.out _).mono ?_
  rintro e w2 ⟨rfl, b2⟩
  go_wp2_with fail
  refine (awake03 _).mono ?_
  rintro e w3 ⟨rfl, b3⟩
  go_wp2_with fail
  go_ret
  exact ⟨rfl, bel_trans2 (bel_trans2 (bel_trans2 b1 HW.out) b2) b3⟩

end Go.Proofs.Ytnkgbmfpfdadjaa
