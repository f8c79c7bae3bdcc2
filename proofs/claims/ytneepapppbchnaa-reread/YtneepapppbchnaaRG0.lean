/- Plain, and the walk of the document's two: what the document's guess reads. -/
import Derived.Test.YtneepapppbchnaaInv
namespace Go.Proofs.Ytneepapppbchnaa
open Go.RowKit
set_option linter.unusedVariables false

def twoD (p : List UInt8) (i : Nat) : Nat := if i + 2 ≤ p.length then (p.getD i 0).toNat * 256 + (p.getD (i + 1) 0).toNat else 0
theorem twoD_lt (p : List UInt8) (i : Nat) : twoD p i < 65536 := by
  unfold twoD
  have := (p.getD i 0).toNat_lt
  have := (p.getD (i + 1) 0).toNat_lt
  split <;> omega
theorem twoD_num (n : Nat) (h : n ≤ 65535) (r : List UInt8) : twoD (numL n 2 ++ r) 0 = n := by
  unfold twoD
  rw [if_pos (by simp [numL_length])]
  rw [numL_two]
  show (UInt8.ofNat (n / 256 % 256)).toNat * 256 + (UInt8.ofNat (n % 256)).toNat = n
  rw [ofNat_toNat _ (by omega), ofNat_toNat _ (by omega)]
  omega
theorem twoD_num2 (n m : Nat) (h : m ≤ 65535) (r : List UInt8) : twoD (numL n 2 ++ (numL m 2 ++ r)) 2 = m := by
  unfold twoD
  rw [if_pos (by simp [numL_length]; omega)]
  rw [numL_two, numL_two]
  show (UInt8.ofNat (m / 256 % 256)).toNat * 256 + (UInt8.ofNat (m % 256)).toNat = m
  rw [ofNat_toNat _ (by omega), ofNat_toNat _ (by omega)]
  omega
set_option maxHeartbeats 400000 in
theorem two_any (p : List UInt8) (i : Nat) (w : World) (hp : p.length ≤ 255) (hi : i ≤ 10) :
    Calls Try.prog 57 #[.string (textOf p), .int .i64 i] w fun e w' => e = .returned (.int .i64 (twoD p i : Nat)) ∧ Below w.heap.size w w' := by
  have hs : (textOf p).size = p.length := textOf_size p
  by_cases h : i + 2 ≤ p.length
  · have HT : Hid (twoD p i = (p.getD i 0).toNat * 256 + (p.getD (i + 1) 0).toNat) := if_pos h
    obtain ⟨s, h1, h2, hsp, g1, g2, b1, b2, hz4⟩ : ∃ (s : ByteArray) (h1 : i < s.size) (h2 : i + 1 < s.size), s = textOf p ∧ s[i].toNat = (p.getD i 0).toNat ∧ s[i + 1].toNat = (p.getD (i + 1) 0).toNat ∧ (p.getD i 0).toNat < 256 ∧ (p.getD (i + 1) 0).toNat < 256 ∧ s.size ≤ 255 :=
      ⟨textOf p, by omega, by omega, rfl, congrArg UInt8.toNat (text_get p i (by omega)), congrArg UInt8.toNat (text_get p (i + 1) (by omega)), (p.getD i 0).toNat_lt, (p.getD (i + 1) 0).toNat_lt, by omega⟩
    rw [← hsp]
    have hz3 : i + 2 ≤ s.size := by omega
    clear hs h hsp hp
    generalize (p.getD i 0).toNat = a at *
    generalize (p.getD (i + 1) 0).toNat = b at *
    go_enter Try.func57, Try.ntmps57
    go_wp2_with fail
    go_quiet (fail)
    go_wp2_with fail
    go_ret
    refine ⟨?_, ?_⟩
    · rw [HT.out]
      show Ending.returned (.int .i64 ((a : Int) * 256 + b)) = _
      rw [show ((a * 256 + b : Nat) : Int) = (a : Int) * 256 + b by omega]
    · exact below_drewN (Below.refl _ _) nq
  · have HT : Hid (twoD p i = 0) := if_neg h
    have hz3 : (textOf p).size < i + 2 := by omega
    clear hs h
    generalize textOf p = s at *
    go_enter Try.func57, Try.ntmps57
    go_wp2_with fail
    go_ret
    exact ⟨by rw [HT.out]; rfl, Below.refl _ _⟩
/-- so much of the writes is read: the rest of the payload -/
def Good (k : Nat) (p : List UInt8) (n : Nat) (ws : List WrL) : Prop :=
  ∀ t g ws', recB k t g ws' = true → p = payL k (Int.toNat t) (Int.toNat g) ws' → ∃ j, j ≤ ws'.length ∧ ws = ws'.take j ∧ p.drop n = (ws'.drop j).flatMap wrBytes ∧ n ≤ p.length
theorem wr_lay (x : WrL) (h : x.key.size ≤ 8 ∧ x.value.size ≤ 16) (r q : List UInt8) (hq : q = wrBytes x ++ r) :
    (q.getD 1 0).toNat = x.key.size ∧ (q.getD (2 + x.key.size) 0).toNat = x.value.size ∧ 3 + x.key.size + x.value.size ≤ q.length := by
  have e : wrBytes x = (if x.dead = true then (1 : UInt8) else 0) :: UInt8.ofNat (x.key.size % 256) :: (x.key.data.toList ++ (UInt8.ofNat (x.value.size % 256) :: x.value.data.toList)) := by
    unfold wrBytes; rw [numL_one, numL_one]; simp
  rw [hq, e]
  refine ⟨?_, ?_, ?_⟩
  · show (UInt8.ofNat (x.key.size % 256)).toNat = _
    rw [ofNat_toNat _ (by omega)]; omega
  · rw [show 2 + x.key.size = x.key.size + 1 + 1 by omega]
    simp only [List.cons_append, List.getD_cons_succ, List.append_assoc]
    have e2 : (x.key.data.toList ++ (UInt8.ofNat (x.value.size % 256) :: (x.value.data.toList ++ r))).getD x.key.size 0 = UInt8.ofNat (x.value.size % 256) := by
      rw [List.getD_eq_getElem?_getD, List.getElem?_append_right (by rw [size_list]; omega), size_list, Nat.sub_self]; rfl
    rw [e2]
    rw [ofNat_toNat _ (by omega)]; omega
  · simp only [List.length_append, List.length_cons, size_list]; omega
theorem Good_start {k : Nat} (hk : k = 1 ∨ k = 2 ∨ k = 5) (p : List UInt8) : Good k p 3 [] := by
  intro t g ws' hr hp
  refine ⟨0, Nat.zero_le _, rfl, ?_, ?_⟩
  · rw [hp]; unfold payL; rw [if_pos hk, numL_two]; unfold wsBytes; rw [numL_one]; rfl
  · rw [hp]; unfold payL; rw [if_pos hk]; unfold wsBytes; simp [numL_length]; omega
theorem rec_short {k : Nat} (hk : k = 1 ∨ k = 2 ∨ k = 5) {t g : Int} {ws : List WrL} (h : recB k t g ws = true) : Short ws := by
  obtain ⟨kn, tn, gn, e1, e2, e3, h1, h6, ht, hg, hw, hn⟩ := rec_nat h
  exact (hw (by omega)).2
/-- what is at hand where a record's payload goes on -/
theorem Good_more {k : Nat} (hk : k = 1 ∨ k = 2 ∨ k = 5) {p : List UInt8} {n : Nat} {ws : List WrL} (h : Good k p n ws) (hn : n + 1 < p.length) {t g : Int} {ws' : List WrL} (hr : recB k t g ws' = true) (hp : p = payL k (Int.toNat t) (Int.toNat g) ws') :
    ∃ j, ∃ hj : j < ws'.length, ws = ws'.take j ∧ p.drop n = wrBytes ws'[j] ++ (ws'.drop (j + 1)).flatMap wrBytes ∧ ws'[j].key.size ≤ 8 ∧ ws'[j].value.size ≤ 16 := by
  obtain ⟨j, hj, h1, h2, h3⟩ := h t g ws' hr hp
  have hlt : j < ws'.length := by
    rcases Nat.lt_or_ge j ws'.length with h4 | h4
    · exact h4
    · rw [List.drop_eq_nil_of_le h4] at h2
      have := congrArg List.length h2
      rw [List.length_drop] at this
      simp at this
      omega
  refine ⟨j, hlt, h1, ?_, (rec_short hk hr).2 j hlt⟩
  rw [h2, List.drop_eq_getElem_cons hlt, List.flatMap_cons]
theorem Good_done {k : Nat} (hk : k = 1 ∨ k = 2 ∨ k = 5) {p : List UInt8} {n : Nat} {ws : List WrL} (h : Good k p n ws) (hn : ¬ n + 1 < p.length) {t g : Int} {ws' : List WrL} (hr : recB k t g ws' = true) (hp : p = payL k (Int.toNat t) (Int.toNat g) ws') : ws = ws' := by
  obtain ⟨j, hj, h1, h2, h3⟩ := h t g ws' hr hp
  rcases Nat.lt_or_ge j ws'.length with h4 | h4
  · rw [List.drop_eq_getElem_cons h4, List.flatMap_cons] at h2
    have := (wr_lay ws'[j] ((rec_short hk hr).2 j h4) _ _ h2).2.2
    rw [List.length_drop] at this
    omega
  · rw [h1, List.take_of_length_le h4]
/-- the write at a place of the payload, as the document's guess reads it -/
def wrAt (p : List UInt8) (n : Nat) : WrL := rdW (p.drop n)
theorem getD_drop (p : List UInt8) (n i : Nat) : (p.drop n).getD i 0 = p.getD (n + i) 0 := by
  simp [List.getD_eq_getElem?_getD, List.getElem?_drop]
theorem Good_next {k : Nat} (hk : k = 1 ∨ k = 2 ∨ k = 5) {p : List UInt8} {n : Nat} {ws : List WrL} (h : Good k p n ws) (hn : n + 1 < p.length) (m : Nat) (hm : m ≤ p.length) (hd : p.drop m = rdR (p.drop n)) : Good k p m (ws ++ [wrAt p n]) := by
  intro t g ws' hr hp
  obtain ⟨j, hj, h1, h2, h3⟩ := Good_more hk h hn hr hp
  obtain ⟨e1, e2⟩ := rdW_eq ws'[j] h3 ((ws'.drop (j + 1)).flatMap wrBytes)
  refine ⟨j + 1, hj, ?_, ?_, hm⟩
  · unfold wrAt; rw [h2, e1, h1, List.take_succ_eq_append_getElem hj]
  · rw [hd, h2, e2]
theorem Good_key {k : Nat} (hk : k = 1 ∨ k = 2 ∨ k = 5) {p : List UInt8} {n : Nat} {ws : List WrL} (h : Good k p n ws) (hn : n + 1 < p.length) (hlong : p.length ≤ n + 2 + (p.getD (n + 1) 0).toNat) {t g : Int} {ws' : List WrL} (hr : recB k t g ws' = true) (hp : p = payL k (Int.toNat t) (Int.toNat g) ws') : False := by
  obtain ⟨j, hj, h1, h2, h3⟩ := Good_more hk h hn hr hp
  obtain ⟨a, b, c⟩ := wr_lay ws'[j] h3 _ _ h2
  rw [getD_drop] at a
  rw [List.length_drop] at c
  omega
theorem Good_val {k : Nat} (hk : k = 1 ∨ k = 2 ∨ k = 5) {p : List UInt8} {n : Nat} {ws : List WrL} (h : Good k p n ws) (hn : n + 1 < p.length) (hlong : p.length < n + 2 + (p.getD (n + 1) 0).toNat + 1 + (p.getD (n + 2 + (p.getD (n + 1) 0).toNat) 0).toNat) {t g : Int} {ws' : List WrL} (hr : recB k t g ws' = true) (hp : p = payL k (Int.toNat t) (Int.toNat g) ws') : False := by
  obtain ⟨j, hj, h1, h2, h3⟩ := Good_more hk h hn hr hp
  obtain ⟨a, b, c⟩ := wr_lay ws'[j] h3 _ _ h2
  rw [getD_drop] at a b
  rw [List.length_drop] at c
  rw [a] at hlong
  rw [← Nat.add_assoc] at b
  rw [b] at hlong
  omega
theorem numD_getD (q : List UInt8) (h : 0 < q.length) : numD (q.take 1) = (q.getD 0 0).toNat := by
  match q, h with
  | x :: r, _ => simp [numD]
theorem textOf_ext (p : List UInt8) (a b : Nat) : (textOf p).extract a b = textOf ((p.drop a).take (b - a)) := by
  unfold textOf
  ext1
  simp only [ByteArray.data_extract]
  apply Array.ext'
  simp only [Array.toList_extract, List.extract_eq_take_drop]
/-- the write at a place, told by the places in the text -/
theorem wrAt_eq (p : List UInt8) (n kk vv : Nat) (hn : n + 1 < p.length) (hk : kk = n + 2 + (p.getD (n + 1) 0).toNat) (hkl : kk < p.length) (hv : vv = kk + 1 + (p.getD kk 0).toNat) :
    wrAt p n = ⟨(textOf p).extract (n + 2) kk, decide ((p.getD n 0).toNat = 1), (textOf p).extract (kk + 1) vv⟩ ∧ rdR (p.drop n) = p.drop vv := by
  have a1 : numD ((p.drop n).take 1) = (p.getD n 0).toNat := by rw [numD_getD _ (by rw [List.length_drop]; omega), getD_drop, Nat.add_zero]
  have a2 : numD (((p.drop n).drop 1).take 1) = (p.getD (n + 1) 0).toNat := by
    rw [List.drop_drop, numD_getD _ (by rw [List.length_drop]; omega), getD_drop, Nat.add_zero]
  have a3 : textR ((p.drop n).drop 1) = p.drop kk := by
    unfold textR; rw [a2]; simp only [List.drop_drop]; congr 1; omega
  have a4 : numD ((p.drop kk).take 1) = (p.getD kk 0).toNat := by rw [numD_getD _ (by rw [List.length_drop]; omega), getD_drop, Nat.add_zero]
  refine ⟨?_, ?_⟩
  · unfold wrAt rdW
    rw [a3, a1]
    rw [textOf_ext, textOf_ext]
    unfold textD
    rw [a2, a4]
    simp only [List.drop_drop]
    rw [show kk - (n + 2) = (p.getD (n + 1) 0).toNat by omega, show vv - (kk + 1) = (p.getD kk 0).toNat by omega]
  · unfold rdR
    rw [a3]
    unfold textR
    rw [a4, List.drop_drop, List.drop_drop]
    congr 1; omega
end Go.Proofs.Ytneepapppbchnaa
