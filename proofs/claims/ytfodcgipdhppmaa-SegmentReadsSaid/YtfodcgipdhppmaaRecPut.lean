/-
  What record's Right, Put and Size answer; nothing that was there is changed.
-/
import Derived.Test.YtfodcgipdhppmaaRecVal
import Derived.Deep.QuietTactic
import Derived.BigQuiet
import Derived.IntWalk
namespace Go.Proofs.Ytfodcgipdhppmaa
open Go.RowKit

/-- Is a record's fault none? -/
def okB (r : Rp.Rec) : Bool := decide (Rp.fault r = 0)
theorem okB_yes {r : Rp.Rec} (h : Rp.fault r = 0) : okB r = true := decide_eq_true h
theorem okB_no {r : Rp.Rec} (h : Rp.fault r ≠ 0) : okB r = false := decide_eq_false h


/-- What Put answers of a record. -/
def putVal (r : Rp.Rec) : Value := .tuple #[.string ⟨(Rp.putB r).toArray⟩, .int .i64 (Rp.fault r)]
theorem putVal_no {r : Rp.Rec} {e : Int} (h : Rp.fault r = e) (he : e ≠ 0) : putVal r = .tuple #[.string ⟨#[]⟩, .int .i64 e] := by
  unfold putVal
  rw [Rp.putB_no (by omega), h]
theorem putVal_yes {r : Rp.Rec} (h : Rp.fault r = 0) : putVal r = .tuple #[.string ⟨(Fr.fr (Rp.body r)).toArray⟩, .int .i64 0] := by
  unfold putVal
  rw [Rp.putB_yes h, h]
theorem body_str (a b : List UInt8) (s : ByteArray) : (⟨a.toArray⟩ ++ ⟨b.toArray⟩ ++ s : ByteArray).data.toList = a ++ b ++ s.data.toList := by simp
theorem putI_pos {n : Int} (h : 0 ≤ n) : putI n = Vp.put n.toNat := by unfold putI; rw [if_neg (by omega)]


theorem putVal_cases (r : Rp.Rec) : (Rp.Ok r ∧ putVal r = .tuple #[.string ⟨(Fr.fr (Rp.body r)).toArray⟩, .int .i64 0]) ∨ (¬ Rp.Ok r ∧ ∃ e, (e = 5 ∨ e = 6) ∧ Rp.fault r = e ∧ putVal r = .tuple #[.string ⟨#[]⟩, .int .i64 e]) := by
  rcases Rp.fault_cases r with ⟨h, hok⟩ | ⟨hno, h⟩
  · exact .inl ⟨hok, putVal_yes h⟩
  · exact .inr ⟨hno, _, h, rfl, putVal_no rfl (by omega)⟩



theorem size_sum {r : Rp.Rec} (h : Rp.Ok r) : sizeI (((putI r.a).length : Int) + ((putI r.t).length : Int) + (r.d.size : Int)) = ((Rp.putB r).length : Int) := by
  have e : (((putI r.a).length : Int) + ((putI r.t).length : Int) + (r.d.size : Int)) = ((Rp.body r).length : Int) := by
    rw [Rp.body_len, putI_pos h.1, putI_pos h.2.2.1]
    omega
  have hm := Rp.body_may h
  have h1 := hm.1
  have h2 := hm.2
  rw [e, sizeI_yes (by omega), Rp.putB_yes (Rp.fault_zero h), Fr.fr_len, putI_pos (by omega), Int.toNat_natCast]
  omega


end Go.Proofs.Ytfodcgipdhppmaa
