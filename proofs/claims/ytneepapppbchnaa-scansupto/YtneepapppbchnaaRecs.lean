/- The walk of isRecord. -/
import Derived.Test.YtneepapppbchnaaOwn
import Derived.Test.YtneepapppbchnaaWrites
namespace Go.Proofs.Ytneepapppbchnaa
open Go.RowKit
set_option linter.unusedVariables false

def timeB (t : Int) : Bool := decide (1 ≤ t ∧ t ≤ 65535)
theorem timeB_yes {t : Int} (h : 1 ≤ t ∧ t ≤ 65535) : timeB t = true := decide_eq_true h
theorem timeB_no {t : Int} (h : ¬ (1 ≤ t ∧ t ≤ 65535)) : timeB t = false := decide_eq_false h
theorem timeB_iff (t : Int) : timeB t = true ↔ 1 ≤ t ∧ t ≤ 65535 := by unfold timeB; simp
def noneB (ws : List WrL) : Bool := decide (ws.length = 0)
/-- is it a RECORD? -/
def recB (k t g : Int) (ws : List WrL) : Bool :=
  if k = 1 ∨ k = 2 then timeB t && (decide (g = 0) && wsB ws 6)
  else if k = 3 then timeB t && (decide (g = 0) && noneB ws)
  else if k = 4 then (decide (t = 0) || timeB t) && (timeB g && noneB ws)
  else if k = 5 then timeB t && (decide (g = 0) && itemB ws)
  else if k = 6 then decide (t = 0) && (decide (g = 0) && noneB ws)
  else false

theorem isTime_any (t : Int) (w : World) : Calls Try.prog 58 #[.int .i64 t] w fun e w' => e = .returned (.bool (timeB t)) ∧ w' = w := by
  by_cases h1 : 1 ≤ t
  · by_cases h2 : t ≤ 65535
    · go_enter Try.func58, Try.ntmps58
      go_wp2
      go_ret
      exact ⟨ret_bool (by rw [timeB_yes ⟨h1, h2⟩]), rfl⟩
    · go_enter Try.func58, Try.ntmps58
      go_wp2
      go_ret
      exact ⟨ret_bool (by rw [timeB_no (by omega)]), rfl⟩
  · go_enter Try.func58, Try.ntmps58
    go_wp2
    go_ret
    exact ⟨ret_bool (by rw [timeB_no (by omega)]), rfl⟩
theorem isGeneration_any (t : Int) (w : World) : Calls Try.prog 60 #[.int .i64 t] w fun e w' => e = .returned (.bool (timeB t)) ∧ w' = w := by
  by_cases h1 : 1 ≤ t
  · by_cases h2 : t ≤ 65535
    · go_enter Try.func60, Try.ntmps60
      go_wp2
      go_ret
      exact ⟨ret_bool (by rw [timeB_yes ⟨h1, h2⟩]), rfl⟩
    · go_enter Try.func60, Try.ntmps60
      go_wp2
      go_ret
      exact ⟨ret_bool (by rw [timeB_no (by omega)]), rfl⟩
  · go_enter Try.func60, Try.ntmps60
    go_wp2
    go_ret
    exact ⟨ret_bool (by rw [timeB_no (by omega)]), rfl⟩
theorem isTime_is (t : Int) (w : World) {d : Bool} (hd : timeB t = d) : Calls Try.prog 58 #[.int .i64 t] w fun e w' => e = .returned (.bool d) ∧ w' = w := by
  subst hd; exact isTime_any t w
theorem isGeneration_is (t : Int) (w : World) {d : Bool} (hd : timeB t = d) : Calls Try.prog 60 #[.int .i64 t] w fun e w' => e = .returned (.bool d) ∧ w' = w := by
  subst hd; exact isGeneration_any t w

def recV (k t g : Int) (v : Value) : Value := .agg #[.int .i64 k, .int .i64 t, .int .i64 g, v]

theorem beq_dec (g : Int) {d : Bool} (h : (g == 0) = d) : decide (g = 0) = d := by
  cases d
  · simpa using h
  · simpa using h
theorem len_none (ws : List WrL) : ((ws.length : Int) == 0) = (true && (true && noneB ws)) := by
  unfold noneB
  cases ws <;> simp
  omega
/-- One -/
theorem isRecord_1 (k t g : Int) (v : Value) (ws : List WrL) (w : World) (hv : WsAt w v ws) (hs : SizedAll ws) (hm : ws.length ≤ maxLen) (g1 : (k == 1) = true)
    (HR : Hid (recB k t g ws = (timeB t && (decide (g = 0) && wsB ws 6)))) :
    Calls Try.prog 49 #[recV k t g v] w fun e w' => e = .returned (.bool (recB k t g ws)) ∧ Below w.heap.size w w' := by
  obtain ⟨a, cap, rfl⟩ := hv.form
  have hlen : ws.length < 9223372036854775808 := by unfold maxLen at hm; omega
  unfold recV
  cases hT : timeB t
  · go_enter Try.func49, Try.ntmps49
    go_wp2_with (go_at_call 58; refine (isTime_is t _ hT).mono ?_; rintro e w1 ⟨rfl, rfl⟩)
    go_ret
    exact ⟨ret_bool (by rw [HR.out, hT]; rfl), box_below _ _⟩
  · cases hG : (g == 0)
    · go_enter Try.func49, Try.ntmps49
      go_wp2_with (go_at_call 58; refine (isTime_is t _ hT).mono ?_; rintro e w1 ⟨rfl, rfl⟩)
      go_ret
      exact ⟨ret_bool (by rw [HR.out, hT, beq_dec g hG]; rfl), box_below _ _⟩
    · go_enter Try.func49, Try.ntmps49
      go_wp2_with (first | (go_at_call 58; refine (isTime_is t _ hT).mono ?_; rintro e w1 ⟨rfl, rfl⟩) | (go_at_call 59; refine (areWrites_any _ ws _ (hv.below (box_below _ _)) hs hm).mono ?_; rintro e w1 ⟨rfl, hb⟩))
      go_ret
      exact ⟨ret_bool (by rw [HR.out, hT, beq_dec g hG]; rfl), box_then hb⟩
/-- Part -/
theorem isRecord_2 (k t g : Int) (v : Value) (ws : List WrL) (w : World) (hv : WsAt w v ws) (hs : SizedAll ws) (hm : ws.length ≤ maxLen) (g1 : (k == 1) = false) (g2 : (k == 2) = true)
    (HR : Hid (recB k t g ws = (timeB t && (decide (g = 0) && wsB ws 6)))) :
    Calls Try.prog 49 #[recV k t g v] w fun e w' => e = .returned (.bool (recB k t g ws)) ∧ Below w.heap.size w w' := by
  obtain ⟨a, cap, rfl⟩ := hv.form
  have hlen : ws.length < 9223372036854775808 := by unfold maxLen at hm; omega
  unfold recV
  cases hT : timeB t
  · go_enter Try.func49, Try.ntmps49
    go_wp2_with (go_at_call 58; refine (isTime_is t _ hT).mono ?_; rintro e w1 ⟨rfl, rfl⟩)
    go_ret
    exact ⟨ret_bool (by rw [HR.out, hT]; rfl), box_below _ _⟩
  · cases hG : (g == 0)
    · go_enter Try.func49, Try.ntmps49
      go_wp2_with (go_at_call 58; refine (isTime_is t _ hT).mono ?_; rintro e w1 ⟨rfl, rfl⟩)
      go_ret
      exact ⟨ret_bool (by rw [HR.out, hT, beq_dec g hG]; rfl), box_below _ _⟩
    · go_enter Try.func49, Try.ntmps49
      go_wp2_with (first | (go_at_call 58; refine (isTime_is t _ hT).mono ?_; rintro e w1 ⟨rfl, rfl⟩) | (go_at_call 59; refine (areWrites_any _ ws _ (hv.below (box_below _ _)) hs hm).mono ?_; rintro e w1 ⟨rfl, hb⟩))
      go_ret
      exact ⟨ret_bool (by rw [HR.out, hT, beq_dec g hG]; rfl), box_then hb⟩
/-- Done -/
theorem isRecord_3 (k t g : Int) (v : Value) (ws : List WrL) (w : World) (hv : WsAt w v ws) (hs : SizedAll ws) (hm : ws.length ≤ maxLen) (g1 : (k == 1) = false) (g2 : (k == 2) = false) (g3 : (k == 3) = true)
    (HR : Hid (recB k t g ws = (timeB t && (decide (g = 0) && noneB ws)))) :
    Calls Try.prog 49 #[recV k t g v] w fun e w' => e = .returned (.bool (recB k t g ws)) ∧ Below w.heap.size w w' := by
  obtain ⟨a, cap, rfl⟩ := hv.form
  have hlen : ws.length < 9223372036854775808 := by unfold maxLen at hm; omega
  unfold recV
  cases hT : timeB t
  · go_enter Try.func49, Try.ntmps49
    go_wp2_with (go_at_call 58; refine (isTime_is t _ hT).mono ?_; rintro e w1 ⟨rfl, rfl⟩)
    go_ret
    exact ⟨ret_bool (by rw [HR.out, hT]; rfl), box_below _ _⟩
  · cases hG : (g == 0)
    · go_enter Try.func49, Try.ntmps49
      go_wp2_with (go_at_call 58; refine (isTime_is t _ hT).mono ?_; rintro e w1 ⟨rfl, rfl⟩)
      go_ret
      exact ⟨ret_bool (by rw [HR.out, hT, beq_dec g hG]; rfl), box_below _ _⟩
    · go_enter Try.func49, Try.ntmps49
      go_wp2_with (go_at_call 58; refine (isTime_is t _ hT).mono ?_; rintro e w1 ⟨rfl, rfl⟩)
      go_ret
      exact ⟨ret_bool (by rw [HR.out, hT, beq_dec g hG]; exact len_none ws), box_below _ _⟩
/-- Item -/
theorem isRecord_5 (k t g : Int) (v : Value) (ws : List WrL) (w : World) (hv : WsAt w v ws) (hs : SizedAll ws) (hm : ws.length ≤ maxLen) (g1 : (k == 1) = false) (g2 : (k == 2) = false) (g3 : (k == 3) = false) (g4 : (k == 4) = false) (g5 : (k == 5) = true)
    (HR : Hid (recB k t g ws = (timeB t && (decide (g = 0) && itemB ws)))) :
    Calls Try.prog 49 #[recV k t g v] w fun e w' => e = .returned (.bool (recB k t g ws)) ∧ Below w.heap.size w w' := by
  obtain ⟨a, cap, rfl⟩ := hv.form
  have hlen : ws.length < 9223372036854775808 := by unfold maxLen at hm; omega
  unfold recV
  cases hT : timeB t
  · go_enter Try.func49, Try.ntmps49
    go_wp2_with (go_at_call 58; refine (isTime_is t _ hT).mono ?_; rintro e w1 ⟨rfl, rfl⟩)
    go_ret
    exact ⟨ret_bool (by rw [HR.out, hT]; rfl), box_below _ _⟩
  · cases hG : (g == 0)
    · go_enter Try.func49, Try.ntmps49
      go_wp2_with (go_at_call 58; refine (isTime_is t _ hT).mono ?_; rintro e w1 ⟨rfl, rfl⟩)
      go_ret
      exact ⟨ret_bool (by rw [HR.out, hT, beq_dec g hG]; rfl), box_below _ _⟩
    · go_enter Try.func49, Try.ntmps49
      go_wp2_with (first | (go_at_call 58; refine (isTime_is t _ hT).mono ?_; rintro e w1 ⟨rfl, rfl⟩) | (go_at_call 61; refine (isItem_any _ ws _ (hv.below (box_below _ _)) hs hm).mono ?_; rintro e w1 ⟨rfl, hb⟩))
      go_ret
      exact ⟨ret_bool (by rw [HR.out, hT, beq_dec g hG]; rfl), box_then hb⟩
/-- Image -/
theorem isRecord_4 (k t g : Int) (v : Value) (ws : List WrL) (w : World) (hv : WsAt w v ws) (hm : ws.length ≤ maxLen) (g1 : (k == 1) = false) (g2 : (k == 2) = false) (g3 : (k == 3) = false) (g4 : (k == 4) = true)
    (HR : Hid (recB k t g ws = ((decide (t = 0) || timeB t) && (timeB g && noneB ws)))) :
    Calls Try.prog 49 #[recV k t g v] w fun e w' => e = .returned (.bool (recB k t g ws)) ∧ Below w.heap.size w w' := by
  obtain ⟨a, cap, rfl⟩ := hv.form
  have hlen : ws.length < 9223372036854775808 := by unfold maxLen at hm; omega
  unfold recV
  cases h0 : (t == 0)
  · cases hT : timeB t
    · go_enter Try.func49, Try.ntmps49
      go_wp2_with (go_at_call 58; refine (isTime_is t _ hT).mono ?_; rintro e w1 ⟨rfl, rfl⟩)
      go_ret
      exact ⟨ret_bool (by rw [HR.out, beq_dec t h0, hT]; rfl), box_below _ _⟩
    · cases hG : timeB g
      · go_enter Try.func49, Try.ntmps49
        go_wp2_with (first | (go_at_call 58; refine (isTime_is t _ hT).mono ?_; rintro e w1 ⟨rfl, rfl⟩) | (go_at_call 60; refine (isGeneration_is g _ hG).mono ?_; rintro e w1 ⟨rfl, rfl⟩))
        go_ret
        exact ⟨ret_bool (by rw [HR.out, beq_dec t h0, hT, hG]; rfl), box_below _ _⟩
      · go_enter Try.func49, Try.ntmps49
        go_wp2_with (first | (go_at_call 58; refine (isTime_is t _ hT).mono ?_; rintro e w1 ⟨rfl, rfl⟩) | (go_at_call 60; refine (isGeneration_is g _ hG).mono ?_; rintro e w1 ⟨rfl, rfl⟩))
        go_ret
        exact ⟨ret_bool (by rw [HR.out, beq_dec t h0, hT, hG]; exact len_none ws), box_below _ _⟩
  · cases hG : timeB g
    · go_enter Try.func49, Try.ntmps49
      go_wp2_with (go_at_call 60; refine (isGeneration_is g _ hG).mono ?_; rintro e w1 ⟨rfl, rfl⟩)
      go_ret
      exact ⟨ret_bool (by rw [HR.out, beq_dec t h0, hG]; rfl), box_below _ _⟩
    · go_enter Try.func49, Try.ntmps49
      go_wp2_with (go_at_call 60; refine (isGeneration_is g _ hG).mono ?_; rintro e w1 ⟨rfl, rfl⟩)
      go_ret
      exact ⟨ret_bool (by rw [HR.out, beq_dec t h0, hG]; exact len_none ws), box_below _ _⟩
/-- Whole -/
theorem isRecord_6 (k t g : Int) (v : Value) (ws : List WrL) (w : World) (hv : WsAt w v ws) (hm : ws.length ≤ maxLen) (g1 : (k == 1) = false) (g2 : (k == 2) = false) (g3 : (k == 3) = false) (g4 : (k == 4) = false) (g5 : (k == 5) = false) (g6 : (k == 6) = true)
    (HR : Hid (recB k t g ws = (decide (t = 0) && (decide (g = 0) && noneB ws)))) :
    Calls Try.prog 49 #[recV k t g v] w fun e w' => e = .returned (.bool (recB k t g ws)) ∧ Below w.heap.size w w' := by
  obtain ⟨a, cap, rfl⟩ := hv.form
  have hlen : ws.length < 9223372036854775808 := by unfold maxLen at hm; omega
  unfold recV
  cases h0 : (t == 0)
  · go_enter Try.func49, Try.ntmps49
    go_wp2_with fail
    go_ret
    exact ⟨ret_bool (by rw [HR.out, beq_dec t h0]; rfl), box_below _ _⟩
  · cases hG : (g == 0)
    · go_enter Try.func49, Try.ntmps49
      go_wp2_with fail
      go_ret
      exact ⟨ret_bool (by rw [HR.out, beq_dec t h0, beq_dec g hG]; rfl), box_below _ _⟩
    · go_enter Try.func49, Try.ntmps49
      go_wp2_with fail
      go_ret
      exact ⟨ret_bool (by rw [HR.out, beq_dec t h0, beq_dec g hG]; exact len_none ws), box_below _ _⟩
/-- none of them -/
theorem isRecord_0 (k t g : Int) (v : Value) (ws : List WrL) (w : World) (hv : WsAt w v ws) (hm : ws.length ≤ maxLen) (g1 : (k == 1) = false) (g2 : (k == 2) = false) (g3 : (k == 3) = false) (g4 : (k == 4) = false) (g5 : (k == 5) = false) (g6 : (k == 6) = false)
    (HR : Hid (recB k t g ws = false)) :
    Calls Try.prog 49 #[recV k t g v] w fun e w' => e = .returned (.bool (recB k t g ws)) ∧ Below w.heap.size w w' := by
  obtain ⟨a, cap, rfl⟩ := hv.form
  unfold recV
  go_enter Try.func49, Try.ntmps49
  go_wp2_with fail
  go_ret
  exact ⟨ret_bool HR.out.symm, box_below _ _⟩
theorem isRecord_any (k t g : Int) (v : Value) (ws : List WrL) (w : World) (hv : WsAt w v ws) (hs : SizedAll ws) (hm : ws.length ≤ maxLen) :
    Calls Try.prog 49 #[recV k t g v] w fun e w' => e = .returned (.bool (recB k t g ws)) ∧ Below w.heap.size w w' := by
  have ne : ∀ n : Int, k ≠ n → (k == n) = false := fun n h => beq_eq_false_iff_ne.2 h
  by_cases h1 : k = 1
  · exact isRecord_1 k t g v ws w hv hs hm (by simp [h1]) (by show _ = _; unfold recB; rw [if_pos (by omega)])
  by_cases h2 : k = 2
  · exact isRecord_2 k t g v ws w hv hs hm (ne _ h1) (by simp [h2]) (by show _ = _; unfold recB; rw [if_pos (by omega)])
  by_cases h3 : k = 3
  · exact isRecord_3 k t g v ws w hv hs hm (ne _ h1) (ne _ h2) (by simp [h3]) (by show _ = _; unfold recB; rw [if_neg (by omega), if_pos h3])
  by_cases h4 : k = 4
  · exact isRecord_4 k t g v ws w hv hm (ne _ h1) (ne _ h2) (ne _ h3) (by simp [h4]) (by show _ = _; unfold recB; rw [if_neg (by omega), if_neg h3, if_pos h4])
  by_cases h5 : k = 5
  · exact isRecord_5 k t g v ws w hv hs hm (ne _ h1) (ne _ h2) (ne _ h3) (ne _ h4) (by simp [h5]) (by show _ = _; unfold recB; rw [if_neg (by omega), if_neg h3, if_neg h4, if_pos h5])
  by_cases h6 : k = 6
  · exact isRecord_6 k t g v ws w hv hm (ne _ h1) (ne _ h2) (ne _ h3) (ne _ h4) (ne _ h5) (by simp [h6]) (by show _ = _; unfold recB; rw [if_neg (by omega), if_neg h3, if_neg h4, if_neg h5, if_pos h6])
  · exact isRecord_0 k t g v ws w hv hm (ne _ h1) (ne _ h2) (ne _ h3) (ne _ h4) (ne _ h5) (ne _ h6) (by show _ = _; unfold recB; rw [if_neg (by omega), if_neg h3, if_neg h4, if_neg h5, if_neg h6])
end Go.Proofs.Ytneepapppbchnaa
