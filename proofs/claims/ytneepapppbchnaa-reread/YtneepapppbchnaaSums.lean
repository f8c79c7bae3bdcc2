/- The walks of Shard and Sum, the code's and the document's: each comes to hashOf and sumOf. -/
import Derived.Test.YtneepapppbchnaaRows
import Derived.Test.YtneepapppbchnaaPlain
import Derived.WalkSpells
import Derived.WalkLawsBesides
namespace Go.Proofs.Ytneepapppbchnaa
open Go.RowKit

set_option maxHeartbeats 400000 in
theorem shiftByte_any (c : Nat) (w : World) (h : c < 4294967296) :
    Calls Try.prog 54 #[.int .u32 c] w fun e w' => e = .returned (.int .u32 (shN 8 c : Nat)) ∧ w' = w := by
  go_enter Try.func54, Try.ntmps54
  go_wp2
  go_loop [0, 3] (fun x i => ∃ k : Nat, k ≤ 8 ∧ i = .int .i64 k ∧ x = .int .u32 (shN k c : Nat)) (fun _ i => 8 - (intOf i).toNat)
  case atStart => exact ⟨0, by omega, rfl, rfl⟩
  case round =>
    obtain ⟨k, hk, rfl, rfl⟩ := hrel
    have hy := shN_lt k h
    have hsucc : Hid (shN (k + 1) c = shB (shN k c)) := rfl
    by_cases hlt : k < 8
    · have HA : Hid (bits .and .u32 ((shN k c : Nat) : Int) 1 = ((shN k c % 2 : Nat) : Int)) := by
        have e := u32_and_nat (shN k c) 1 hy (by decide)
        rw [Nat.and_one_is_mod] at e; exact e
      have HX : Hid (bits .xor .u32 (((shN k c : Nat) : Int) / 2) 3988292384 = (((shN k c / 2) ^^^ 3988292384 : Nat) : Int)) :=
        u32_xor_nat (shN k c / 2) 3988292384 (by omega) (by decide)
      generalize shN k c = y at *
      by_cases hp : y % 2 = 1
      · have hb : (bits .and .u32 (y : Int) 1 == 1) = true := by rw [HA.out, hp]; rfl
        go_wp2
        go_round
        case rel => exact ⟨k + 1, by omega, by go_num, by rw [HX.out, hsucc.out]; unfold shB; rw [if_pos hp]⟩
        case measure => simp [intOf]; omega
      · have hb : (bits .and .u32 (y : Int) 1 == 1) = false := by rw [HA.out, show y % 2 = 0 by omega]; rfl
        go_wp2
        go_round
        case rel => exact ⟨k + 1, by omega, by go_num, by rw [hsucc.out]; unfold shB; rw [if_neg hp]; go_num⟩
        case measure => simp [intOf]; omega
    · obtain rfl : k = 8 := by omega
      go_wp2
      go_ret
      exact ⟨rfl, rfl⟩

set_option maxHeartbeats 400000 in
theorem fsum_any (s : ByteArray) (w : World) (hs : s.size ≤ maxLen) :
    Calls Try.prog 38 #[.string s] w fun e w' => e = .returned (.int .i64 (sumOf s.data.toList : Nat)) ∧ w' = w := by
  unfold maxLen at hs
  go_enter Try.func38, Try.ntmps38
  go_wp2
  go_loop [3, 7] (fun c i => ∃ k : Nat, k ≤ s.size ∧ i = .int .i64 k ∧ c = .int .u32 (crcOf (s.data.toList.take k) : Nat)) (fun _ i => s.size - (intOf i).toNat)
  case atStart => exact ⟨0, Nat.zero_le _, rfl, rfl⟩
  case round =>
    obtain ⟨k, hk, rfl, rfl⟩ := hrel
    have hy := crcOf_lt (s.data.toList.take k)
    by_cases hlt : k < s.size
    · have HS : Hid (crcOf (s.data.toList.take (k + 1)) = shN 8 (crcOf (s.data.toList.take k) ^^^ s[k].toNat)) := by
        show _ = _
        rw [take_snoc s k hlt, crcOf_snoc]
      have HX : Hid (bits .xor .u32 ((crcOf (s.data.toList.take k) : Nat) : Int) ((s[k].toNat : Nat) : Int) = ((crcOf (s.data.toList.take k) ^^^ s[k].toNat : Nat) : Int)) :=
        u32_xor_nat _ _ hy (by have := s[k].toNat_lt; omega)
      have hlt32 := xor_lt32 hy (show s[k].toNat < 4294967296 by have := s[k].toNat_lt; omega)
      generalize crcOf (s.data.toList.take k) = y at *
      go_wp2_with fail
      have e1 : ((s[k].toNat : Nat) : Int) % 4294967296 = ((s[k].toNat : Nat) : Int) := by have := s[k].toNat_lt; omega
      rw [e1, HX.out]
      refine (shiftByte_any _ _ hlt32).mono ?_
      rintro e w' ⟨rfl, rfl⟩
      go_wp2
      go_round
      case rel => exact ⟨k + 1, by omega, by go_num, by rw [HS.out]⟩
      case measure => simp [intOf]; omega
    · obtain rfl : k = s.size := by omega
      have HE : Hid (wrap64 (bits .xor .u32 IntKind.u32.max ((crcOf s.data.toList : Nat) : Int)) = ((sumOf s.data.toList : Nat) : Int)) := not_u32 _ (crcOf_lt _)
      rw [List.take_of_length_le (by simp)] at *
      go_wp2
      go_ret
      exact ⟨ret_int HE.out, rfl⟩
set_option maxHeartbeats 400000 in
theorem rsum_any (s : ByteArray) (w : World) (hs : s.size ≤ maxLen) :
    Calls Try.prog 21 #[.string s] w fun e w' => e = .returned (.int .i64 (sumOf s.data.toList : Nat)) ∧ w' = w := by
  unfold maxLen at hs
  go_enter Try.func21, Try.ntmps21
  go_wp2
  go_loop [3, 4] (fun c i => ∃ k : Nat, k ≤ s.size ∧ i = .int .i64 k ∧ c = .int .i64 (crcOf (s.data.toList.take k) : Nat)) (fun _ i => s.size - (intOf i).toNat)
  case atStart => exact ⟨0, Nat.zero_le _, rfl, rfl⟩
  case round =>
    obtain ⟨k, hk, rfl, rfl⟩ := hrel
    have hy := crcOf_lt (s.data.toList.take k)
    by_cases hlt : k < s.size
    · have HS : Hid (crcOf (s.data.toList.take (k + 1)) = rN s[k].toNat 8 (crcOf (s.data.toList.take k))) := by
        show _ = _
        rw [take_snoc s k hlt, crcOf_snoc']
      generalize crcOf (s.data.toList.take k) = y at *
      go_wp2
      go_loop [3, 5] (fun c i => ∃ j : Nat, j ≤ 8 ∧ i = .int .i64 j ∧ c = .int .i64 (rN s[k].toNat j y : Nat)) (fun _ i => 8 - (intOf i).toNat)
      case atStart => exact ⟨0, Nat.zero_le _, rfl, rfl⟩
      case round =>
        obtain ⟨j, hj, rfl, rfl⟩ := hrel
        have hz := rN_lt s[k].toNat j hy
        have HJ : Hid (rN s[k].toNat (j + 1) y = rB s[k].toNat j (rN s[k].toNat j y)) := rfl
        by_cases hjt : j < 8
        · generalize rN s[k].toNat j y = z at *
          have HX : Hid (bits .xor .i64 ((z : Int) / 2) 3988292384 = ((z / 2 ^^^ 3988292384 : Nat) : Int)) := i64_xor_nat (z / 2) 3988292384 (by omega) (by decide)
          have HR := rbit_eq s[k].toNat j s[k].toNat_lt
          by_cases hp : z % 2 = s[k].toNat / 2 ^ j % 2
          · have hb : ((z : Int) % 2 != (wrap64 ((s[k].toNat : Int) / 2 ^ j)).tmod 2) = false := by
              rw [HR, ← hp]; simp
            clear HR
            go_wp2
            go_round
            case rel => exact ⟨j + 1, by omega, by go_num, by rw [HJ.out]; unfold rB; rw [if_pos hp]; go_num⟩
            case measure => simp [intOf]; omega
          · have hb : ((z : Int) % 2 != (wrap64 ((s[k].toNat : Int) / 2 ^ j)).tmod 2) = true := by
              rw [HR, bne_iff_ne]; omega
            clear HR
            go_wp2
            go_round
            case rel => exact ⟨j + 1, by omega, by go_num, by rw [HJ.out]; unfold rB; rw [if_neg hp, HX.out]⟩
            case measure => simp [intOf]; omega
        · obtain rfl : j = 8 := by omega
          go_wp2
          go_round
          case rel => exact ⟨k + 1, by omega, by go_num, by rw [HS.out]⟩
          case measure => simp [intOf]; omega
    · obtain rfl : k = s.size := by omega
      rw [List.take_of_length_le (by simp)] at *
      have HE : Hid ((4294967295 : Int) - ((crcOf s.data.toList : Nat) : Int) = ((sumOf s.data.toList : Nat) : Int)) := by
        show _ = _
        unfold sumOf; omega
      go_wp2
      go_ret
      exact ⟨ret_int HE.out, rfl⟩

set_option maxHeartbeats 400000 in
theorem hash_any (s : ByteArray) (w : World) (hs : s.size ≤ maxLen) :
    Calls Try.prog 40 #[.string s] w fun e w' => e = .returned (.int .u32 (hashOf s.data.toList : Nat)) ∧ w' = w := by
  unfold maxLen at hs
  go_enter Try.func40, Try.ntmps40
  go_wp2
  go_loop [3, 7] (fun h i => ∃ k : Nat, k ≤ s.size ∧ i = .int .i64 k ∧ h = .int .u32 (hashOf (s.data.toList.take k) : Nat)) (fun _ i => s.size - (intOf i).toNat)
  case atStart => exact ⟨0, by omega, rfl, rfl⟩
  case round =>
    obtain ⟨k, hk, rfl, rfl⟩ := hrel
    have hy := hashOf_lt (s.data.toList.take k)
    by_cases hlt : k < s.size
    · have HS : Hid (hashOf (s.data.toList.take (k + 1)) = (31 * hashOf (s.data.toList.take k) + s[k].toNat) % 4294967296) := by
        show _ = _
        rw [take_snoc s k hlt, hashOf_snoc]
      generalize hashOf (s.data.toList.take k) = y at *
      go_wp2
      go_round
      case rel => exact ⟨k + 1, by omega, by go_num, by rw [HS.out]; go_num⟩
      case measure => simp [intOf]; omega
    · obtain rfl : k = s.size := by omega
      rw [List.take_of_length_le (by simp)] at *
      go_wp2
      go_ret
      exact ⟨rfl, rfl⟩

def keyB (s : ByteArray) : Bool := decide (1 ≤ s.size ∧ s.size ≤ 8)
theorem keyB_yes {s : ByteArray} (h : 1 ≤ s.size ∧ s.size ≤ 8) : keyB s = true := by unfold keyB; simpa using h
theorem keyB_no {s : ByteArray} (h : ¬ (1 ≤ s.size ∧ s.size ≤ 8)) : keyB s = false := by unfold keyB; simpa using h
theorem ret_bool {a b : Bool} (h : a = b) : Ending.returned (.bool a) = .returned (.bool b) := by rw [h]

set_option maxHeartbeats 400000 in
theorem isKey_any (s : ByteArray) (w : World) (hs : s.size ≤ maxLen) :
    Calls Try.prog 39 #[.string s] w fun e w' => e = .returned (.bool (keyB s)) ∧ w' = w := by
  unfold maxLen at hs
  by_cases h1 : 1 ≤ s.size
  · by_cases h2 : s.size ≤ 8
    · go_enter Try.func39, Try.ntmps39
      go_wp2
      go_ret
      exact ⟨ret_bool (by rw [keyB_yes ⟨h1, h2⟩]; simp; omega), rfl⟩
    · go_enter Try.func39, Try.ntmps39
      go_wp2
      go_ret
      exact ⟨ret_bool (by rw [keyB_no (by omega)]; simp; omega), rfl⟩
  · go_enter Try.func39, Try.ntmps39
    go_wp2
    go_ret
    exact ⟨ret_bool (by rw [keyB_no (by omega)]), rfl⟩
set_option maxHeartbeats 400000 in
theorem isKeyR_any (s : ByteArray) (w : World) (hs : s.size ≤ maxLen) :
    Calls Try.prog 37 #[.string s] w fun e w' => e = .returned (.bool (keyB s)) ∧ w' = w := by
  unfold maxLen at hs
  by_cases h1 : 1 ≤ s.size
  · by_cases h2 : s.size ≤ 8
    · go_enter Try.func37, Try.ntmps37
      go_wp2
      go_ret
      exact ⟨ret_bool (by rw [keyB_yes ⟨h1, h2⟩]; simp; omega), rfl⟩
    · go_enter Try.func37, Try.ntmps37
      go_wp2
      go_ret
      exact ⟨ret_bool (by rw [keyB_no (by omega)]; simp; omega), rfl⟩
  · go_enter Try.func37, Try.ntmps37
    go_wp2
    go_ret
    exact ⟨ret_bool (by rw [keyB_no (by omega)]), rfl⟩

def shardV (s : ByteArray) (n : Int) : Int := if 1 ≤ n ∧ n ≤ 4 then (if keyB s = true then (hashOf s.data.toList : Int) % n else 0) else 0
def shardE (s : ByteArray) (n : Int) : Int := if 1 ≤ n ∧ n ≤ 4 then (if keyB s = true then 0 else 7) else 1
theorem ret_two {k l : IntKind} {a b c d : Int} (h : a = c) (g : b = d) : Ending.returned (.tuple #[.int k a, .int l b]) = .returned (.tuple #[.int k c, .int l d]) := by rw [h, g]

set_option maxHeartbeats 400000 in
theorem kshard_any (s : ByteArray) (n : Int) (w : World) (hs : s.size ≤ maxLen) :
    Calls Try.prog 23 #[.string s, .int .i64 n] w fun e w' => e = .returned (.tuple #[.int .i64 (shardV s n), .int .i64 (shardE s n)]) ∧ w' = w := by
  by_cases h1 : n < 1
  · go_enter Try.func23, Try.ntmps23
    go_wp2
    go_ret2
    exact ⟨ret_two (by unfold shardV; rw [if_neg (by omega)]) (by unfold shardE; rw [if_neg (by omega)]), rfl⟩
  · by_cases h2 : 4 < n
    · go_enter Try.func23, Try.ntmps23
      go_wp2
      go_ret2
      exact ⟨ret_two (by unfold shardV; rw [if_neg (by omega)]) (by unfold shardE; rw [if_neg (by omega)]), rfl⟩
    · cases hk : keyB s
      · go_enter Try.func23, Try.ntmps23
        go_wp2_with fail
        refine (isKey_any s _ hs).mono ?_
        rintro e w' ⟨rfl, rfl⟩
        go_wp2_with fail
        go_ret2
        exact ⟨ret_two (by unfold shardV; rw [if_pos (by omega)]; simp [hk]) (by unfold shardE; rw [if_pos (by omega)]; simp [hk]), rfl⟩
      · have hh := hashOf_lt s.data.toList
        have HV : Hid (shardV s n = (hashOf s.data.toList : Int) % n) := by
          show _ = _
          unfold shardV; rw [if_pos (by omega), if_pos hk]
        have HE : Hid (shardE s n = 0) := by
          show _ = _
          unfold shardE; rw [if_pos (by omega), if_pos hk]
        go_enter Try.func23, Try.ntmps23
        go_wp2_with fail
        refine (isKey_any s _ hs).mono ?_
        rintro e w' ⟨rfl, rfl⟩
        go_wp2_with fail
        refine (hash_any s _ hs).mono ?_
        rintro e w' ⟨rfl, rfl⟩
        generalize hashOf s.data.toList = y at *
        have hm0 : 0 ≤ (y : Int) % n := Int.emod_nonneg _ (by omega)
        have hm1 : (y : Int) % n < n := Int.emod_lt_of_pos _ (by omega)
        go_wp2_with fail
        go_ret2
        exact ⟨ret_two (by rw [HV.out]) (by rw [HE.out]), rfl⟩

set_option maxHeartbeats 400000 in
theorem rshard_any (s : ByteArray) (n : Int) (w : World) (hs : s.size ≤ maxLen) :
    Calls Try.prog 19 #[.string s, .int .i64 n] w fun e w' => e = .returned (.tuple #[.int .i64 (shardV s n), .int .i64 (shardE s n)]) ∧ w' = w := by
  by_cases h1 : n < 1
  · go_enter Try.func19, Try.ntmps19
    go_wp2
    go_ret2
    exact ⟨ret_two (by unfold shardV; rw [if_neg (by omega)]) (by unfold shardE; rw [if_neg (by omega)]), rfl⟩
  · by_cases h2 : 4 < n
    · go_enter Try.func19, Try.ntmps19
      go_wp2
      go_ret2
      exact ⟨ret_two (by unfold shardV; rw [if_neg (by omega)]) (by unfold shardE; rw [if_neg (by omega)]), rfl⟩
    · cases hk : keyB s
      · go_enter Try.func19, Try.ntmps19
        go_wp2_with fail
        refine (isKeyR_any s _ hs).mono ?_
        rintro e w' ⟨rfl, rfl⟩
        go_wp2_with fail
        go_ret2
        exact ⟨ret_two (by unfold shardV; rw [if_pos (by omega)]; simp [hk]) (by unfold shardE; rw [if_pos (by omega)]; simp [hk]), rfl⟩
      · have HV : Hid (shardV s n = (hashOf s.data.toList : Int) % n) := by
          show _ = _
          unfold shardV; rw [if_pos (by omega), if_pos hk]
        have HE : Hid (shardE s n = 0) := by
          show _ = _
          unfold shardE; rw [if_pos (by omega), if_pos hk]
        go_enter Try.func19, Try.ntmps19
        go_wp2_with fail
        refine (isKeyR_any s _ hs).mono ?_
        rintro e w' ⟨rfl, rfl⟩
        unfold maxLen at hs
        go_wp2_with fail
        go_loop [7, 8] (fun h i => ∃ k : Nat, k ≤ s.size ∧ i = .int .i64 k ∧ h = .int .i64 (hashOf (s.data.toList.take k) : Nat)) (fun _ i => s.size - (intOf i).toNat)
        case atStart => exact ⟨0, by omega, rfl, rfl⟩
        case round =>
          obtain ⟨k, hk, rfl, rfl⟩ := hrel
          have hy := hashOf_lt (s.data.toList.take k)
          by_cases hlt : k < s.size
          · have HS : Hid (hashOf (s.data.toList.take (k + 1)) = (31 * hashOf (s.data.toList.take k) + s[k].toNat) % 4294967296) := by
              show _ = _
              rw [take_snoc s k hlt, hashOf_snoc]
            generalize hashOf (s.data.toList.take k) = y at *
            have hb8 := s[k].toNat_lt
            go_wp2
            go_round
            case rel => exact ⟨k + 1, by omega, by go_num, by rw [HS.out]; go_num⟩
            case measure => simp [intOf]; omega
          · obtain rfl : k = s.size := by omega
            rw [List.take_of_length_le (by simp)] at *
            go_wp2
            go_ret2
            exact ⟨ret_two (by rw [HV.out]) (by rw [HE.out]), rfl⟩

set_option maxHeartbeats 400000 in
theorem pshard_any (s : ByteArray) (n : Int) (w : World) (hs : s.size ≤ maxLen) :
    Calls Try.prog 11 #[.string s, .int .i64 n] w fun e w' => e = .returned (.tuple #[.int .i64 (shardV s n), .int .i64 (shardE s n)]) ∧ w' = w := by
  go_enter Try.func11, Try.ntmps11
  go_wp2_with fail
  refine (kshard_any s n _ hs).mono ?_
  rintro e w' ⟨rfl, rfl⟩
  go_wp2_with fail
  go_ret2
  exact ⟨rfl, rfl⟩
set_option maxHeartbeats 400000 in
theorem psum_any (s : ByteArray) (w : World) (hs : s.size ≤ maxLen) :
    Calls Try.prog 20 #[.string s] w fun e w' => e = .returned (.int .i64 (sumOf s.data.toList : Nat)) ∧ w' = w := by
  go_enter Try.func20, Try.ntmps20
  go_wp2_with fail
  refine (fsum_any s _ hs).mono ?_
  rintro e w' ⟨rfl, rfl⟩
  go_wp2_with fail
  go_ret
  exact ⟨rfl, rfl⟩
theorem num_any (n : Int) (w : World) : Calls Try.prog 22 #[.int .i64 n] w fun e w' => e = .returned (.int .i64 n) ∧ w' = w := by
  go_enter Try.func22, Try.ntmps22
  go_wp2_with fail
  go_ret
  exact ⟨rfl, rfl⟩
set_option maxHeartbeats 400000 in
theorem places_any (s : ByteArray) (n : Int) (w : World) (hs : s.size ≤ maxLen) :
    Calls Try.prog 8 #[.string s, .int .i64 n] w fun e w' => e = .returned (.bool true) ∧ w' = w := by
  go_enter Try.func8, Try.ntmps8
  go_wp2_with fail
  refine (pshard_any s n _ hs).mono ?_
  rintro e w' ⟨rfl, rfl⟩
  go_wp2_with fail
  refine (rshard_any s n _ hs).mono ?_
  rintro e w' ⟨rfl, rfl⟩
  go_wp2_with fail
  refine (psum_any s _ hs).mono ?_
  rintro e w' ⟨rfl, rfl⟩
  go_wp2_with fail
  refine (rsum_any s _ hs).mono ?_
  rintro e w' ⟨rfl, rfl⟩
  go_wp2_with fail
  refine (num_any _ _).mono ?_
  rintro e w' ⟨rfl, rfl⟩
  go_wp2_with fail
  go_ret
  exact ⟨rfl, rfl⟩
set_option maxHeartbeats 400000 in
theorem Places_any (s : ByteArray) (n : Int) (w : World) (hs : s.size ≤ maxLen) :
    Calls Try.prog 3 #[.string s, .int .i64 n] w fun e w' => e = .returned (.bool true) ∧ w' = w := by
  go_enter Try.func3, Try.ntmps3
  go_wp2_with fail
  refine (places_any s n _ hs).mono ?_
  rintro e w' ⟨rfl, rfl⟩
  go_wp2_with fail
  go_ret
  exact ⟨rfl, rfl⟩
end Go.Proofs.Ytneepapppbchnaa
