/- Plain: a sum tells one byte from another; frames that lie one behind another are read one by one; with one byte another the frame is none. -/
import Derived.Test.YtneepapppbchnaaInv
namespace Go.Proofs.Ytneepapppbchnaa
set_option linter.unusedVariables false

theorem poly_bit : (3988292384 : Nat).testBit 31 = true := by decide
theorem high_of {a : Nat} (h : a < 2147483648) : 2147483648 ≤ a ^^^ 3988292384 := by
  have h1 : (a ^^^ 3988292384).testBit 31 = true := by
    rw [Nat.testBit_xor, poly_bit, Nat.testBit_lt_two_pow (by simpa using h)]; rfl
  simpa using Nat.ge_two_pow_of_testBit h1
theorem xor_cancel {a b c : Nat} (h : a ^^^ c = b ^^^ c) : a = b := by
  have := congrArg (· ^^^ c) h
  simpa [Nat.xor_assoc, Nat.xor_self] using this
theorem xor_cancel' {a b c : Nat} (h : c ^^^ a = c ^^^ b) : a = b := by
  rw [Nat.xor_comm c a, Nat.xor_comm c b] at h
  exact xor_cancel h
theorem shB_inj {a b : Nat} (ha : a < 4294967296) (hb : b < 4294967296) (h : shB a = shB b) : a = b := by
  unfold shB at h
  have h1 : a / 2 < 2147483648 := by omega
  have h2 : b / 2 < 2147483648 := by omega
  by_cases ea : a % 2 = 1
  · rw [if_pos ea] at h
    by_cases eb : b % 2 = 1
    · rw [if_pos eb] at h
      have := xor_cancel h
      omega
    · rw [if_neg eb] at h
      have := high_of h1
      omega
  · rw [if_neg ea] at h
    by_cases eb : b % 2 = 1
    · rw [if_pos eb] at h
      have := high_of h2
      omega
    · rw [if_neg eb] at h
      omega
theorem shN_inj (k : Nat) {a b : Nat} (ha : a < 4294967296) (hb : b < 4294967296) (h : shN k a = shN k b) : a = b := by
  induction k generalizing a b with
  | zero => exact h
  | succ k ih => first | exact shB_inj ha hb (ih (shB_lt ha) (shB_lt hb) h) | exact ih ha hb (shB_inj (shN_lt k ha) (shN_lt k hb) h)
theorem byte_lt (x : UInt8) : x.toNat < 4294967296 := by have := x.toNat_lt; omega
def crcFrom (c : Nat) (l : List UInt8) : Nat := l.foldl (fun c b => shN 8 (c ^^^ b.toNat)) c
theorem crcFrom_inj (l : List UInt8) {a b : Nat} (ha : a < 4294967296) (hb : b < 4294967296) (h : crcFrom a l = crcFrom b l) : a = b := by
  induction l generalizing a b with
  | nil => exact h
  | cons x l ih =>
    have h1 := xor_lt32 ha (byte_lt x)
    have h2 := xor_lt32 hb (byte_lt x)
    exact xor_cancel (shN_inj 8 h1 h2 (ih (shN_lt 8 h1) (shN_lt 8 h2) h))
theorem crcOf_split (a b : List UInt8) : crcOf (a ++ b) = crcFrom (crcOf a) b := by unfold crcOf crcFrom; rw [List.foldl_append]
/-- one byte another: another sum -/
theorem sum_byte (a b : List UInt8) (x y : UInt8) (h : sumOf (a ++ x :: b) = sumOf (a ++ y :: b)) : x = y := by
  unfold sumOf at h
  have l1 := crcOf_lt (a ++ x :: b)
  have l2 := crcOf_lt (a ++ y :: b)
  have h1 : crcOf (a ++ x :: b) = crcOf (a ++ y :: b) := by omega
  rw [crcOf_split, crcOf_split] at h1
  have lx := xor_lt32 (crcOf_lt a) (byte_lt x)
  have ly := xor_lt32 (crcOf_lt a) (byte_lt y)
  have h2 : shN 8 (crcOf a ^^^ x.toNat) = shN 8 (crcOf a ^^^ y.toNat) := crcFrom_inj b (shN_lt 8 lx) (shN_lt 8 ly) h1
  exact UInt8.toNat_inj.1 (xor_cancel' (shN_inj 8 lx ly h2))
theorem ofNat_inj {a b : Nat} (ha : a < 256) (hb : b < 256) (h : UInt8.ofNat a = UInt8.ofNat b) : a = b := by
  have := congrArg UInt8.toNat h
  rwa [ofNat_toNat _ ha, ofNat_toNat _ hb] at this
theorem numL_four (v : Nat) : numL v 4 = [UInt8.ofNat (v / 16777216 % 256), UInt8.ofNat (v / 65536 % 256), UInt8.ofNat (v / 256 % 256), UInt8.ofNat (v % 256)] := by
  rw [numL_succ, numL_succ, numL_succ, numL_one]
theorem numL_inj {a b : Nat} (ha : a < 4294967296) (hb : b < 4294967296) (h : numL a 4 = numL b 4) : a = b := by
  rw [numL_four, numL_four] at h
  injection h with h1 h
  injection h with h2 h
  injection h with h3 h
  injection h with h4 h
  have h1 := ofNat_inj (by omega) (by omega) h1
  have h2 := ofNat_inj (by omega) (by omega) h2
  have h3 := ofNat_inj (by omega) (by omega) h3
  have h4 := ofNat_inj (by omega) (by omega) h4
  omega
/-- the frames of some records -/
def framesL (rows : List RecL) : List UInt8 := rows.flatMap fun r => frameL r.kind r.time r.gen r.writes
def RecL.ok (r : RecL) : Prop := recB r.kind r.time r.gen r.writes = true
theorem framesL_cons (r : RecL) (rows : List RecL) : framesL (r :: rows) = frameL r.kind r.time r.gen r.writes ++ framesL rows := rfl
theorem framesL_append (a b : List RecL) : framesL (a ++ b) = framesL a ++ framesL b := by unfold framesL; rw [List.flatMap_append]
theorem framesL_snoc (a : List RecL) (r : RecL) : framesL (a ++ [r]) = framesL a ++ frameL r.kind r.time r.gen r.writes := by rw [framesL_append]; simp [framesL]
theorem frame_length {r : RecL} (h : r.ok) : 7 ≤ (frameL r.kind r.time r.gen r.writes).length ∧ (frameL r.kind r.time r.gen r.writes).length ≤ 172 := by
  obtain ⟨kn, tn, gn, e1, e2, e3, h1, h6, ht, hg, hw, hn⟩ := rec_nat h
  have hk : r.kind = kn := by omega
  have hp := payL_length r.kind r.time r.gen r.writes (by rw [hk]; exact hw)
  have := (frame_parts r.kind r.time r.gen r.writes [] (by omega) (by omega)).2.2.2
  omega
theorem drop_frames (rows : List RecL) (i : Nat) (h : i ≤ rows.length) (rest : List UInt8) : (framesL rows ++ rest).drop (framesL (rows.take i)).length = framesL (rows.drop i) ++ rest := by
  conv => lhs; rw [← List.take_append_drop i rows, framesL_append]
  rw [List.take_append_drop, List.append_assoc]
  exact List.drop_left
theorem taken_frames (rows : List RecL) (hok : ∀ r ∈ rows, r.ok) (rest : List UInt8) (i : Nat) (h : i ≤ rows.length) : taken i (framesL rows ++ rest) = (framesL (rows.take i)).length := by
  induction i with
  | zero => rfl
  | succ i ih =>
    have hi : i < rows.length := by omega
    show taken i _ + (7 + fN ((framesL rows ++ rest).drop (taken i _))) = _
    rw [ih (by omega), drop_frames rows i (by omega), List.drop_eq_getElem_cons hi, framesL_cons, List.append_assoc]
    rw [(frame_read (hok rows[i] (List.getElem_mem hi)) _).2.2]
    rw [List.take_succ_eq_append_getElem hi, framesL_snoc, List.length_append]
/-- what Scan reads of frames behind which no frame begins -/
theorem scan_frames (rows : List RecL) (hok : ∀ r ∈ rows, r.ok) (rest : List UInt8) (hr : fB rest = false) : okN rows.length (framesL rows ++ rest) ∧ taken rows.length (framesL rows ++ rest) = (framesL rows).length ∧ fB ((framesL rows ++ rest).drop (taken rows.length (framesL rows ++ rest))) = false ∧ recs rows.length (framesL rows ++ rest) = rows := by
  have ht := taken_frames rows hok rest rows.length (Nat.le_refl _)
  rw [List.take_length] at ht
  refine ⟨?_, ht, ?_, ?_⟩
  · intro i hi
    rw [taken_frames rows hok rest i (by omega), drop_frames rows i (by omega), List.drop_eq_getElem_cons hi, framesL_cons, List.append_assoc]
    exact (frame_read (hok rows[i] (List.getElem_mem hi)) _).1
  · rw [ht, List.drop_left]; exact hr
  · unfold recs
    apply List.ext_getElem
    · simp
    · intro i h1 h2
      simp only [List.getElem_map, List.getElem_range]
      rw [taken_frames rows hok rest i (by omega), drop_frames rows i (by omega), List.drop_eq_getElem_cons h2, framesL_cons, List.append_assoc]
      exact (frame_read (hok rows[i] (List.getElem_mem h2)) _).2.1
theorem fB_first {q : List UInt8} (h : fB q = true) : q.getD 0 0 = 112 := by
  unfold fB at h
  simp only [Bool.and_eq_true, decide_eq_true_eq] at h
  obtain ⟨_, hf⟩ := h
  have : q.getD 0 0 = (q.take (7 + fN q)).getD 0 0 := by
    cases q with
    | nil => rfl
    | cons x r => rw [show 7 + fN (x :: r) = 6 + fN (x :: r) + 1 by omega, List.take_succ_cons]; rfl
  rw [this, ← hf]
  rfl
theorem fB_dash (r : List UInt8) : fB (45 :: r) = false := by
  cases h : fB (45 :: r) with
  | false => rfl
  | true => have h1 := fB_first h; exact absurd (show (45 : UInt8) = 112 from h1) (by decide)
theorem fB_nil : fB [] = false := rfl
theorem headL_length (k t g : Nat) (ws : List WrL) : (headL k t g ws).length = 3 + (payL k t g ws).length := by
  unfold headL
  simp only [List.length_append, numL_length, List.length_singleton]
  omega
theorem set_split {l : List UInt8} {j : Nat} (hj : j < l.length) (x : UInt8) : l.set j x = l.take j ++ x :: l.drop (j + 1) ∧ l = l.take j ++ l[j] :: l.drop (j + 1) := by
  refine ⟨?_, ?_⟩
  · rw [List.set_eq_take_append_cons_drop, if_pos hj]
  · rw [← List.drop_eq_getElem_cons hj, List.take_append_drop]
/-- with one byte another, but of its length, a frame is none -/
theorem frame_broken {r : RecL} (hr : r.ok) (j : Nat) (hj : j < (frameL r.kind r.time r.gen r.writes).length) (hj2 : j ≠ 2) (x : UInt8) (hx : x ≠ (frameL r.kind r.time r.gen r.writes)[j]) (rest : List UInt8) :
    fB ((frameL r.kind r.time r.gen r.writes).set j x ++ rest) = false := by
  cases h : fB ((frameL r.kind r.time r.gen r.writes).set j x ++ rest) with
  | false => rfl
  | true =>
    exfalso
    obtain ⟨kn, tn, gn, e1, e2, e3, h1, h6, ht, hg, hw, hn⟩ := rec_nat hr
    have hk : r.kind = kn := by omega
    have hp := payL_length r.kind r.time r.gen r.writes (by rw [hk]; exact hw)
    obtain ⟨_, p2, _, p4⟩ := frame_parts r.kind r.time r.gen r.writes [] (by omega) (by omega)
    rw [List.append_nil] at p2
    have hF : frameL r.kind r.time r.gen r.writes = headL r.kind r.time r.gen r.writes ++ numL (sumOf (headL r.kind r.time r.gen r.writes)) 4 := rfl
    have hH := headL_length r.kind r.time r.gen r.writes
    generalize hFF : frameL r.kind r.time r.gen r.writes = F at *
    generalize headL r.kind r.time r.gen r.writes = Hd at *
    generalize (payL r.kind r.time r.gen r.writes).length = pl at *
    have hN : fN (F.set j x ++ rest) = pl := by
      rw [← p2]
      unfold fN
      congr 1
      rw [List.getD_eq_getElem?_getD, List.getD_eq_getElem?_getD, List.getElem?_append_left (by rw [List.length_set]; omega), List.getElem?_set_ne hj2]
    unfold fB at h
    simp only [Bool.and_eq_true, decide_eq_true_eq] at h
    obtain ⟨⟨_, hrec⟩, hf⟩ := h
    have htk : (F.set j x ++ rest).take (7 + fN (F.set j x ++ rest)) = F.set j x := by
      rw [hN, List.take_append_of_le_length (by rw [List.length_set]; omega), List.take_of_length_le (by rw [List.length_set]; omega)]
    rw [htk] at hf
    generalize fK (F.set j x ++ rest) = k' at *
    generalize gT k' (fP (F.set j x ++ rest)) = t' at *
    generalize gG k' (fP (F.set j x ++ rest)) = g' at *
    generalize gW k' (fP (F.set j x ++ rest)) = ws' at *
    have hF' : frameL k' t' g' ws' = headL k' t' g' ws' ++ numL (sumOf (headL k' t' g' ws')) 4 := rfl
    rw [hF'] at hf
    have hlen := congrArg List.length hf
    rw [List.length_append, numL_length, List.length_set] at hlen
    generalize headL k' t' g' ws' = Hd' at *
    have hl' : Hd'.length = Hd.length := by omega
    by_cases hjh : j < Hd.length
    · have hset : F.set j x = Hd.set j x ++ numL (sumOf Hd) 4 := by rw [hF, List.set_append_left _ _ hjh]
      rw [hset] at hf
      obtain ⟨a1, a2⟩ := List.append_inj hf (by rw [List.length_set]; exact hl')
      have hs := numL_inj (sumOf_lt _) (sumOf_lt _) a2
      obtain ⟨b1, b2⟩ := set_split hjh x
      rw [a1, b1] at hs
      have hs2 : sumOf (Hd.take j ++ x :: Hd.drop (j + 1)) = sumOf (Hd.take j ++ Hd[j] :: Hd.drop (j + 1)) := by rw [hs, ← b2]
      have := sum_byte _ _ _ _ hs2
      apply hx
      rw [this]
      have : F[j] = (Hd ++ numL (sumOf Hd) 4)[j]'(by rw [← hF]; exact hj) := by congr 1
      rw [this, List.getElem_append_left hjh]
    · have hset : F.set j x = Hd ++ (numL (sumOf Hd) 4).set (j - Hd.length) x := by rw [hF, List.set_append_right _ _ (by omega)]
      rw [hset] at hf
      obtain ⟨a1, a2⟩ := List.append_inj hf hl'
      rw [a1] at a2
      have hjn : j - Hd.length < (numL (sumOf Hd) 4).length := by rw [numL_length]; omega
      have hx2 := congrArg (fun l => l[j - Hd.length]?) a2
      simp only [List.getElem?_set_self hjn] at hx2
      rw [List.getElem?_eq_getElem hjn] at hx2
      injection hx2 with hx2
      apply hx
      have : F[j] = (Hd ++ numL (sumOf Hd) 4)[j]'(by rw [← hF]; exact hj) := by congr 1
      rw [this, List.getElem_append_right (by omega), hx2]
end Go.Proofs.Ytneepapppbchnaa
