/- Plain facts on numbers and texts: the hash of a key, the check sum bit by bit and byte by byte. No program is named here. -/
import Derived.WalkKit
namespace Go.Proofs.YtneepapppbchnaaGreat
open Go.RowKit

/-- one step of the sum's register -/
def shB (c : Nat) : Nat := if c % 2 = 1 then c / 2 ^^^ 3988292384 else c / 2
def shN : Nat → Nat → Nat
  | 0, c => c
  | k + 1, c => shB (shN k c)
/-- the document's step: the k-th bit of the byte b is met in turn -/
def rB (b k x : Nat) : Nat := if x % 2 = b / 2 ^ k % 2 then x / 2 else x / 2 ^^^ 3988292384
def rN (b : Nat) : Nat → Nat → Nat
  | 0, x => x
  | k + 1, x => rB b k (rN b k x)
def crcOf (l : List UInt8) : Nat := l.foldl (fun c b => shN 8 (c ^^^ b.toNat)) 4294967295
def sumOf (l : List UInt8) : Nat := 4294967295 - crcOf l
def hashOf (l : List UInt8) : Nat := l.foldl (fun h b => (31 * h + b.toNat) % 4294967296) 0

theorem xor_lt32 {a b : Nat} (ha : a < 4294967296) (hb : b < 4294967296) : a ^^^ b < 4294967296 := by
  have := Nat.xor_lt_two_pow (n := 32) (x := a) (y := b) (by simpa using ha) (by simpa using hb)
  simpa using this
theorem shB_lt {c : Nat} (h : c < 4294967296) : shB c < 4294967296 := by
  unfold shB; split
  · exact xor_lt32 (by omega) (by decide)
  · omega
theorem shN_lt (k : Nat) {c : Nat} (h : c < 4294967296) : shN k c < 4294967296 := by
  induction k with
  | zero => exact h
  | succ k ih => exact shB_lt ih
theorem rB_lt (b k : Nat) {x : Nat} (h : x < 4294967296) : rB b k x < 4294967296 := by
  unfold rB; split
  · omega
  · exact xor_lt32 (by omega) (by decide)
theorem rN_lt (b k : Nat) {x : Nat} (h : x < 4294967296) : rN b k x < 4294967296 := by
  induction k with
  | zero => exact h
  | succ k ih => exact rB_lt b k ih
theorem xor_mod2 (a b : Nat) : (a ^^^ b) % 2 = (a % 2 + b % 2) % 2 := by
  have h := Nat.xor_mod_two_pow (a := a) (b := b) (n := 1)
  simp only [Nat.pow_one] at h
  rw [h]
  rcases Nat.mod_two_eq_zero_or_one a with h1 | h1 <;> rcases Nat.mod_two_eq_zero_or_one b with h2 | h2 <;> simp [h1, h2]
theorem xor_div2 (a b : Nat) : (a ^^^ b) / 2 = a / 2 ^^^ b / 2 := by
  have h := Nat.xor_div_two_pow (a := a) (b := b) (n := 1)
  simpa using h
theorem shN_rN (x b k : Nat) : shN k (x ^^^ b) = rN b k x ^^^ b / 2 ^ k := by
  induction k with
  | zero => simp [shN, rN]
  | succ k ih =>
    have hd : b / 2 ^ (k + 1) = b / 2 ^ k / 2 := by rw [Nat.pow_succ, Nat.div_div_eq_div_mul]
    show shB (shN k (x ^^^ b)) = rB b k (rN b k x) ^^^ b / 2 ^ (k + 1)
    rw [ih, hd]
    generalize rN b k x = y
    unfold shB rB
    generalize b / 2 ^ k = z
    rw [xor_mod2, xor_div2]
    by_cases h : y % 2 = z % 2
    · rw [if_neg (by omega), if_pos h]
    · rw [if_pos (by omega), if_neg h, Nat.xor_assoc, Nat.xor_assoc, Nat.xor_comm (z / 2)]
theorem shN_byte (x : Nat) (b : UInt8) : shN 8 (x ^^^ b.toNat) = rN b.toNat 8 x := by
  rw [shN_rN]
  have h := b.toNat_lt
  have e : b.toNat / 2 ^ 8 = 0 := by simp; omega
  rw [e, Nat.xor_zero]
theorem crcOf_lt (l : List UInt8) : crcOf l < 4294967296 := by
  unfold crcOf
  have : ∀ c, c < 4294967296 → l.foldl (fun c b => shN 8 (c ^^^ b.toNat)) c < 4294967296 := by
    induction l with
    | nil => intro c h; exact h
    | cons b l ih =>
      intro c h
      exact ih _ (shN_lt 8 (xor_lt32 h (by have := b.toNat_lt; omega)))
  exact this _ (by decide)
theorem crcOf_snoc (l : List UInt8) (b : UInt8) : crcOf (l ++ [b]) = shN 8 (crcOf l ^^^ b.toNat) := by
  unfold crcOf; rw [List.foldl_append]; rfl
theorem crcOf_snoc' (l : List UInt8) (b : UInt8) : crcOf (l ++ [b]) = rN b.toNat 8 (crcOf l) := by
  rw [crcOf_snoc, shN_byte]
theorem sumOf_lt (l : List UInt8) : sumOf l < 4294967296 := by unfold sumOf; omega
theorem hashOf_snoc (l : List UInt8) (b : UInt8) : hashOf (l ++ [b]) = (31 * hashOf l + b.toNat) % 4294967296 := by
  unfold hashOf; rw [List.foldl_append]; rfl
theorem hashOf_lt (l : List UInt8) : hashOf l < 4294967296 := by
  unfold hashOf
  have : ∀ h, h < 4294967296 → l.foldl (fun h (b : UInt8) => (31 * h + b.toNat) % 4294967296) h < 4294967296 := by
    induction l with
    | nil => intro c h; exact h
    | cons b l ih => intro c _; exact ih _ (Nat.mod_lt _ (by decide))
  exact this _ (by decide)
theorem take_snoc (s : ByteArray) (k : Nat) (h : k < s.size) : s.data.toList.take (k + 1) = s.data.toList.take k ++ [s[k]] := by
  rw [List.take_succ_eq_append_getElem (by simpa using h)]; rfl
theorem ret_int {k : IntKind} {a b : Int} (h : a = b) : Ending.returned (.int k a) = .returned (.int k b) := by rw [h]
theorem i64_xor_nat (a b : Nat) (ha : a < 4294967296) (hb : b < 4294967296) : bits .xor .i64 (a : Int) (b : Int) = ((a ^^^ b : Nat) : Int) := by
  have h := xor_lt32 ha hb
  have ha' : a % 2 ^ 64 = a := Nat.mod_eq_of_lt (by omega)
  have hb' : b % 2 ^ 64 = b := Nat.mod_eq_of_lt (by omega)
  have e : (IntKind.i64).bits = 64 := rfl
  simp only [bits, e, BitVec.ofInt_natCast, BitVec.toNat_xor, BitVec.toNat_ofNat, ha', hb']
  rw [IntKind.wrap_i64]; omega
theorem wrap64_small {n : Int} (h0 : 0 ≤ n) (h1 : n < 9223372036854775808) : wrap64 n = n := by
  unfold wrap64; omega
theorem rbit_eq (b j : Nat) (hb : b < 256) : (wrap64 ((b : Int) / 2 ^ j)).tmod 2 = ((b / 2 ^ j % 2 : Nat) : Int) := by
  have e : ((b : Int) / 2 ^ j) = ((b / 2 ^ j : Nat) : Int) := by simp
  have hl : b / 2 ^ j ≤ b := Nat.div_le_self _ _
  rw [e]
  generalize b / 2 ^ j = c at *
  rw [wrap64_small (by omega) (by omega), Int.tmod_eq_emod_of_nonneg (by omega)]; omega
theorem not_u32 (c : Nat) (h : c < 4294967296) : wrap64 (bits .xor .u32 IntKind.u32.max (c : Int)) = ((4294967295 - c : Nat) : Int) := by
  have e : IntKind.u32.max = ((4294967295 : Nat) : Int) := by decide
  have ex : 4294967295 ^^^ c = 4294967295 - c := by
    apply Nat.eq_of_testBit_eq
    intro i
    have h3 := Nat.testBit_two_pow_sub_succ (n := 32) (x := c) (by simpa using h) i
    have h4 : (2 ^ 32 - (c + 1)) = 4294967295 - c := by omega
    rw [h4] at h3
    rw [h3, Nat.testBit_xor, show (4294967295 : Nat) = 2 ^ 32 - 1 by rfl, Nat.testBit_two_pow_sub_one]
    by_cases hi : i < 32
    · simp [hi]
    · have : c.testBit i = false := Nat.testBit_lt_two_pow (Nat.lt_of_lt_of_le (by simpa using h) (Nat.pow_le_pow_right (by decide) (by omega : 32 ≤ i)))
      simp [hi, this]
  rw [e, u32_xor_nat _ _ (by decide) h, ex, wrap64_small (by omega) (by omega)]
end Go.Proofs.YtneepapppbchnaaGreat
