/- The walks of pick and upTo, and of Spread. -/
import Derived.Test.YtneepapppbchnaaSums
namespace Go.Proofs.Ytneepapppbchnaa
open Go.RowKit
set_option linter.unusedVariables false

def pickOf (c n : Int) : Int := (if c < 0 then -(c + 1) else c) % n
theorem pickOf_nonneg (c n : Int) (h : 0 < n) : 0 ≤ pickOf c n := Int.emod_nonneg _ (by omega)
theorem pickOf_lt (c n : Int) (h : 0 < n) : pickOf c n < n := Int.emod_lt_of_pos _ h
def firstOf (s : ByteArray) (n : Nat) : ByteArray := s.extract 0 n
theorem firstOf_size (s : ByteArray) (n : Nat) : (firstOf s n).size = min n s.size := by unfold firstOf; simp
theorem firstOf_all (s : ByteArray) (n : Nat) (h : s.size ≤ n) : firstOf s n = s := by
  unfold firstOf; ext1; simp; exact Or.inr h
theorem ret_string {a b : ByteArray} (h : a = b) : Ending.returned (.string a) = .returned (.string b) := by rw [h]

set_option maxHeartbeats 400000 in
theorem pick_any (c n : Int) (w : World) (hc : -9223372036854775808 ≤ c ∧ c ≤ 9223372036854775807) (hn : 0 < n) (hn2 : n ≤ 9223372036854775807) :
    Calls Try.prog 10 #[.int .i64 c, .int .i64 n] w fun e w' => e = .returned (.int .i64 (pickOf c n)) ∧ w' = w := by
  obtain ⟨hc1, hc2⟩ := hc
  have hn0 : (n == 0) = false := by rw [beq_eq_false_iff_ne]; omega
  by_cases h : c < 0
  · have HP : Hid (pickOf c n = (-(c + 1)) % n) := by
      show _ = _
      unfold pickOf; rw [if_pos h]
    go_enter Try.func10, Try.ntmps10
    go_wp2
    go_ret
    exact ⟨ret_int (by rw [HP.out, ← Int.neg_tmod, Int.tmod_eq_emod_of_nonneg (by omega)]), rfl⟩
  · have HP : Hid (pickOf c n = c % n) := by
      show _ = _
      unfold pickOf; rw [if_neg h]
    go_enter Try.func10, Try.ntmps10
    go_wp2
    go_ret
    exact ⟨ret_int HP.out.symm, rfl⟩

set_option maxHeartbeats 400000 in
theorem upTo_any (s : ByteArray) (n : Nat) (w : World) (hs : s.size ≤ maxLen) (hn : n < 9223372036854775807) :
    Calls Try.prog 9 #[.string s, .int .i64 n] w fun e w' => e = .returned (.string (firstOf s n)) ∧ w' = w := by
  unfold maxLen at hs
  by_cases h : n < s.size
  · go_enter Try.func9, Try.ntmps9
    go_wp2
    go_ret
    exact ⟨rfl, rfl⟩
  · go_enter Try.func9, Try.ntmps9
    go_wp2
    go_ret
    exact ⟨ret_string (firstOf_all s n (by omega)).symm, rfl⟩
end Go.Proofs.Ytneepapppbchnaa
