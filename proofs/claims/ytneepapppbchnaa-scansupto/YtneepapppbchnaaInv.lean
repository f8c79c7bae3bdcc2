/- Plain: what guess reads out of a record's payload is that record; a frame's record is read back. -/
import Derived.Test.YtneepapppbchnaaScan4
namespace Go.Proofs.Ytneepapppbchnaa
set_option linter.unusedVariables false

theorem ofNat_toNat (n : Nat) (h : n < 256) : (UInt8.ofNat n).toNat = n := UInt8.toNat_ofNat_of_lt' h
theorem numL_one (n : Nat) : numL n 1 = [UInt8.ofNat (n % 256)] := by simp [numL]
theorem numL_two (n : Nat) : numL n 2 = [UInt8.ofNat (n / 256 % 256), UInt8.ofNat (n % 256)] := by
  rw [numL_succ, numL_one]
theorem numD_two (n : Nat) (h : n < 65536) (r : List UInt8) : numD ((numL n 2 ++ r).take 2) = n := by
  rw [numL_two]
  simp only [List.cons_append, List.take_succ_cons, List.take_zero, numD, List.foldl_cons, List.foldl_nil]
  rw [ofNat_toNat _ (by omega), ofNat_toNat _ (by omega)]
  omega
theorem drop_two (n : Nat) (r : List UInt8) : (numL n 2 ++ r).drop 2 = r := by rw [numL_two]; rfl
theorem numD_head (n : Nat) (h : n < 256) (r : List UInt8) : numD ((numL n 1 ++ r).take 1) = n := by
  rw [numL_one]
  simp only [List.cons_append, List.nil_append, List.take_succ_cons, List.take_zero, numD, List.foldl_cons, List.foldl_nil]
  rw [ofNat_toNat _ (by omega)]
  omega
theorem drop_head (n : Nat) (r : List UInt8) : (numL n 1 ++ r).drop 1 = r := by rw [numL_one]; rfl
theorem textD_eq (s : ByteArray) (h : s.size < 256) (r : List UInt8) : textD (numL s.size 1 ++ s.data.toList ++ r) = s.data.toList ∧ textR (numL s.size 1 ++ s.data.toList ++ r) = r := by
  unfold textD textR
  rw [List.append_assoc, numD_head _ h, drop_head]
  rw [← size_list s]
  exact ⟨List.take_left, List.drop_left⟩
theorem rdW_eq (x : WrL) (h : x.key.size ≤ 8 ∧ x.value.size ≤ 16) (r : List UInt8) : rdW (wrBytes x ++ r) = x ∧ rdR (wrBytes x ++ r) = r := by
  have e : wrBytes x ++ r = (if x.dead = true then (1 : UInt8) else 0) :: (numL x.key.size 1 ++ x.key.data.toList ++ (numL x.value.size 1 ++ x.value.data.toList ++ r)) := by
    unfold wrBytes; simp
  rw [e]
  unfold rdW rdR
  have h1 := textD_eq x.key (by omega) (numL x.value.size 1 ++ x.value.data.toList ++ r)
  have h2 := textD_eq x.value (by omega) r
  simp only [List.drop_succ_cons, List.drop_zero, h1.1, h1.2, h2.1, h2.2, and_true]
  obtain ⟨k, d, v⟩ := x
  simp only
  rw [← text_self k, ← text_self v]
  congr 1
  cases d <;> simp [numD]
theorem rdWs_eq (ws : List WrL) (h : ∀ i (hi : i < ws.length), ws[i].key.size ≤ 8 ∧ ws[i].value.size ≤ 16) (r : List UInt8) : rdWs ws.length (ws.flatMap wrBytes ++ r) = ws := by
  induction ws with
  | nil => rfl
  | cons x ws ih =>
    have hx := h 0 (by simp)
    simp only [List.getElem_cons_zero] at hx
    have h1 := rdW_eq x hx (ws.flatMap wrBytes ++ r)
    rw [List.flatMap_cons, List.append_assoc]
    show rdW _ :: rdWs ws.length (rdR _) = _
    rw [h1.1, h1.2, ih (fun i hi => by have := h (i + 1) (by simpa using hi); simpa using this)]
theorem rdAll_eq (ws : List WrL) (h : Short ws) : rdAll (wsBytes ws) = ws := by
  unfold rdAll wsBytes
  have hl := h.1
  rw [numD_head _ (by omega), drop_head]
  have := rdWs_eq ws h.2 []
  rwa [List.append_nil] at this

/-- what guess reads out of a record's payload -/
theorem guess_inv {k t g : Nat} {ws : List WrL} (h : recB k t g ws = true) : gT k (payL k t g ws) = t ∧ gG k (payL k t g ws) = g ∧ gW k (payL k t g ws) = ws := by
  obtain ⟨kn, tn, gn, e1, e2, e3, h1, h6, ht, hg, hw, hn⟩ := rec_nat h
  obtain rfl : k = kn := by omega
  obtain rfl : t = tn := by omega
  obtain rfl : g = gn := by omega
  unfold recB at h
  by_cases hk : k = 1 ∨ k = 2 ∨ k = 5
  · have hp : payL k t g ws = numL t 2 ++ wsBytes ws := by unfold payL; rw [if_pos hk]
    have hg0 : g = 0 := by
      by_cases h12 : ((k : Int) = 1 ∨ (k : Int) = 2)
      · rw [if_pos h12] at h
        simp only [Bool.and_eq_true, decide_eq_true_eq] at h
        have := h.2.1; omega
      · rw [if_neg h12, if_neg (by omega), if_neg (by omega), if_pos (by omega)] at h
        simp only [Bool.and_eq_true, decide_eq_true_eq] at h
        have := h.2.1; omega
    unfold gT gG gW
    rw [hp, if_pos (by omega), if_neg (by omega), if_pos hk, drop_two, numD_two _ (by omega), rdAll_eq _ (hw hk).2]
    exact ⟨rfl, hg0.symm, rfl⟩
  · have hz : ws = [] := List.eq_nil_of_length_eq_zero (hn (by omega))
    subst hz
    have hgw : gW k (payL k t g []) = [] := by unfold gW; rw [if_neg hk]
    rw [if_neg (by omega)] at h
    by_cases h3 : k = 3
    · have hp : payL k t g [] = numL t 2 ++ [] := by unfold payL; rw [if_neg hk, if_pos h3, List.append_nil]
      rw [if_pos (by omega)] at h
      simp only [Bool.and_eq_true, decide_eq_true_eq] at h
      have := h.2.1
      refine ⟨?_, ?_, hgw⟩
      · unfold gT; rw [if_pos (by omega), hp, numD_two _ (by omega)]
      · unfold gG; rw [if_neg (by omega)]; omega
    rw [if_neg (by omega)] at h
    by_cases h4 : k = 4
    · have hp : payL k t g [] = numL t 2 ++ (numL g 2 ++ []) := by unfold payL; rw [if_neg hk, if_neg h3, if_pos h4, List.append_nil]
      refine ⟨?_, ?_, hgw⟩
      · unfold gT; rw [if_pos (by omega), hp, numD_two _ (by omega)]
      · unfold gG; rw [if_pos h4, hp, drop_two, numD_two _ (by omega)]
    rw [if_neg (by omega), if_neg (by omega), if_pos (by omega)] at h
    simp only [Bool.and_eq_true, decide_eq_true_eq] at h
    have := h.1
    have := h.2.1
    refine ⟨?_, ?_, hgw⟩
    · unfold gT; rw [if_neg (by omega)]; omega
    · unfold gG; rw [if_neg (by omega)]; omega
/-- a frame's parts -/
theorem frame_parts (k t g : Nat) (ws : List WrL) (rest : List UInt8) (hk : k < 256) (hp : (payL k t g ws).length < 256) :
    fK (frameL k t g ws ++ rest) = k ∧ fN (frameL k t g ws ++ rest) = (payL k t g ws).length ∧ fP (frameL k t g ws ++ rest) = payL k t g ws ∧ (frameL k t g ws).length = 7 + (payL k t g ws).length := by
  have e : frameL k t g ws ++ rest = 112 :: UInt8.ofNat (k % 256) :: UInt8.ofNat ((payL k t g ws).length % 256) :: (payL k t g ws ++ (numL (sumOf (headL k t g ws)) 4 ++ rest)) := by
    show headL k t g ws ++ numL (sumOf (headL k t g ws)) 4 ++ rest = _
    conv => lhs; arg 1; arg 1; unfold headL
    rw [numL_one, numL_one]
    simp
  have hN : fN (frameL k t g ws ++ rest) = (payL k t g ws).length := by
    unfold fN; rw [e]
    show (UInt8.ofNat ((payL k t g ws).length % 256)).toNat = _
    rw [ofNat_toNat _ (by omega)]; omega
  refine ⟨?_, hN, ?_, ?_⟩
  · unfold fK; rw [e]
    show (UInt8.ofNat (k % 256)).toNat = _
    rw [ofNat_toNat _ (by omega)]; omega
  · unfold fP; rw [hN, e]
    show List.take (payL k t g ws).length (payL k t g ws ++ _) = _
    exact List.take_left
  · show (headL k t g ws ++ numL (sumOf (headL k t g ws)) 4).length = _
    unfold headL
    simp only [List.length_append, numL_length, List.length_singleton]
    omega
/-- a record's frame is read back -/
theorem frame_read {k t g : Nat} {ws : List WrL} (h : recB k t g ws = true) (rest : List UInt8) :
    fB (frameL k t g ws ++ rest) = true ∧ recAt (frameL k t g ws ++ rest) = ⟨k, t, g, ws⟩ ∧ 7 + fN (frameL k t g ws ++ rest) = (frameL k t g ws).length := by
  obtain ⟨kn, tn, gn, e1, e2, e3, h1, h6, ht, hg, hw, hn⟩ := rec_nat h
  obtain rfl : k = kn := by omega
  obtain ⟨p1, p2, p3, p4⟩ := frame_parts k t g ws rest (by omega) (by have := payL_length k t g ws hw; omega)
  obtain ⟨g1, g2, g3⟩ := guess_inv h
  have hlen : (frameL k t g ws ++ rest).length = 7 + (payL k t g ws).length + rest.length := by rw [List.length_append, p4]
  refine ⟨?_, ?_, ?_⟩
  · refine fB_yes (by omega) (by omega) ?_ ?_
    · rw [p1, p3, g1, g2, g3]; exact h
    · rw [p1, p2, p3, g1, g2, g3, ← p4, List.take_left]
  · unfold recAt; rw [p1, p3, g1, g2, g3]
  · rw [p2, p4]
end Go.Proofs.Ytneepapppbchnaa
