/- The document's own Recorded. -/
import Derived.Test.YtneepapppbchnaaRef
namespace Go.Proofs.Ytneepapppbchnaa
open Go.RowKit
set_option linter.unusedVariables false

set_option maxHeartbeats 400000 in
theorem right_out (v : Value) (ws : List WrL) (w : World) (most : Nat) (hb : ∃ a cap, v = .slice a ws.length cap) (hm : ws.length ≤ maxLen) (h7 : most ≤ 6) (h : ws.length < 1 ∨ most < ws.length) :
    Calls Try.prog 56 #[v, .int .i64 most] w fun e w' => e = .returned (.bool false) ∧ w' = w := by
  obtain ⟨a, cap, rfl⟩ := hb
  unfold maxLen at hm
  by_cases h1 : ws.length < 1
  · go_enter Try.func56, Try.ntmps56
    go_wp2
    go_ret
    exact ⟨rfl, rfl⟩
  · have h2 : most < ws.length := by omega
    have h3 : (most : Int) < (ws.length : Int) := by omega
    go_enter Try.func56, Try.ntmps56
    go_wp2
    go_ret
    exact ⟨rfl, rfl⟩
theorem right_any (v : Value) (ws : List WrL) (w : World) (most : Nat) (hv : WsAt w v ws) (hs : SizedAll ws) (hm : ws.length ≤ maxLen) (h7 : most ≤ 6) :
    Calls Try.prog 56 #[v, .int .i64 most] w fun e w' => e = .returned (.bool (wsB ws most)) ∧ Below w.heap.size w w' := by
  by_cases h : ws.length < 1 ∨ most < ws.length
  · refine (right_out v ws w most hv.form hm h7 h).mono ?_
    rintro e w' ⟨rfl, rfl⟩
    exact ⟨ret_bool (wsB_none ws most h).symm, Below.refl _ _⟩
  · rcases hv with ⟨rfl, rfl⟩ | ⟨b, off, cap, rfl, hc⟩
    · simp at h
    · refine (right_some ws b off cap most w hs (by omega) (by omega) h7 hc).mono ?_
      rintro e w' ⟨⟨d, rfl, hd⟩, hb⟩
      exact ⟨ret_bool (bool_of_iff (by omega) (by omega) hd), hb⟩

theorem itemB_one (ws : List WrL) (h : wsB ws 1 = false) : itemB ws = false := by
  match ws with
  | [] => rfl
  | [r] =>
    cases hw : wrB r
    · show (wrB r && !r.dead) = false
      rw [hw]; rfl
    · have : wsB [r] 1 = true := (wsB_iff [r] 1).2 ⟨by simp, by simp, fun i hi hi' => by
        obtain rfl : i = 0 := by simpa using hi
        exact ⟨hw, fun h => absurd h (by omega)⟩⟩
      rw [this] at h; cases h
  | _ :: _ :: _ => rfl
theorem one_yes (ws : List WrL) (h : wsB ws 1 = true) : ∃ r, ws = [r] ∧ itemB ws = !r.dead := by
  obtain ⟨h1, h2, h3⟩ := (wsB_iff ws 1).1 h
  obtain ⟨r, rfl⟩ : ∃ r, ws = [r] := List.length_eq_one_iff.1 (by omega)
  have hw := (h3 0 (by simp) (by simp)).1
  refine ⟨r, rfl, ?_⟩
  show (wrB r && !r.dead) = _
  have : wrB r = true := hw
  rw [this]; rfl

/-- the head of the walk: both calls of 'right' are met -/
theorem rec_head (k t g : Int) (a : Option Addr) (cap : Nat) (ws : List WrL) (w : World) (hv : WsAt w (.slice a ws.length cap) ws) (hs : SizedAll ws) (hm : ws.length ≤ maxLen) :
    ∃ W, W = w.alloc (.cells #[.int .i64 k, .int .i64 t, .int .i64 g, .slice a ws.length cap] 32) ∧ WsAt W (.slice a ws.length cap) ws ∧ Below w.heap.size w W ∧ w.heap.size < W.heap.size ∧
      W.cell? ⟨w.heap.size, 0, none⟩ = some (.int .i64 k) ∧ W.cell? ⟨w.heap.size, 1, none⟩ = some (.int .i64 t) ∧ W.cell? ⟨w.heap.size, 2, none⟩ = some (.int .i64 g) ∧ W.cell? ⟨w.heap.size, 3, none⟩ = some (.slice a ws.length cap) :=
  ⟨_, rfl, hv.below (box_below _ _), box_below _ _, by simp, by simp, by simp, by simp, by simp⟩

/-- the time's test, decided -/
theorem time3 (t : Int) : (0 < t ∧ t ≤ 65535 ∧ timeB t = true) ∨ (¬ 0 < t ∧ timeB t = false) ∨ (0 < t ∧ ¬ t ≤ 65535 ∧ timeB t = false) := by
  by_cases h1 : 0 < t
  · by_cases h2 : t ≤ 65535
    · exact .inl ⟨h1, h2, timeB_yes (by omega)⟩
    · exact .inr (.inr ⟨h1, h2, timeB_no (by omega)⟩)
  · exact .inr (.inl ⟨h1, timeB_no (by omega)⟩)
theorem time4 (t : Int) : (0 ≤ t ∧ t ≤ 65535 ∧ (decide (t = 0) || timeB t) = true) ∨ (¬ 0 ≤ t ∧ (decide (t = 0) || timeB t) = false) ∨ (0 ≤ t ∧ ¬ t ≤ 65535 ∧ (decide (t = 0) || timeB t) = false) := by
  by_cases h1 : 0 ≤ t
  · by_cases h2 : t ≤ 65535
    · refine .inl ⟨h1, h2, ?_⟩
      by_cases h0 : t = 0
      · simp [h0]
      · rw [timeB_yes (by omega)]; simp
    · refine .inr (.inr ⟨h1, h2, ?_⟩)
      rw [timeB_no (by omega)]; simp; omega
  · refine .inr (.inl ⟨h1, ?_⟩)
    rw [timeB_no (by omega)]; simp; omega
set_option maxHeartbeats 1000000 in
set_option maxRecDepth 100000 in
theorem recorded_4 (k t g : Int) (v : Value) (ws : List WrL) (w : World) (hv : WsAt w v ws) (hs : SizedAll ws) (hm : ws.length ≤ maxLen) (h4 : (k == 4) = true) (HR : Hid (recB k t g ws = ((decide (t = 0) || timeB t) && (timeB g && noneB ws)))) :
    Calls Try.prog 42 #[recV k t g v] w fun e w' => e = .returned (.bool (recB k t g ws)) ∧ Below w.heap.size w w' := by
  obtain ⟨a, cap, rfl⟩ := hv.form
  obtain ⟨W, HW, hvW, hBW, hlt, x0, x1, x2, x3⟩ := rec_head k t g a cap ws w hv hs hm
  have hlen : ws.length < 9223372036854775808 := by unfold maxLen at hm; omega
  unfold recV
  go_enter Try.func42, Try.ntmps42
  go_wp2_with fail
  rw [← HW]
  clear HW
  refine (right_any _ ws _ 6 hvW hs hm (by omega)).mono ?_
  rintro e w1 ⟨rfl, hb1⟩
  have y0 := (hb1.cell hlt).trans x0
  have y1 := (hb1.cell hlt).trans x1
  have y2 := (hb1.cell hlt).trans x2
  have y3 := (hb1.cell hlt).trans x3
  have hlt1 : w.heap.size < w1.heap.size := Nat.lt_of_lt_of_le hlt hb1.size
  go_wp2_with fail
  refine (right_any _ ws _ 1 (hvW.below hb1) hs hm (by omega)).mono ?_
  rintro e w2 ⟨rfl, hb2⟩
  have hv2 := (hvW.below hb1).below hb2
  have z0 := (hb2.cell hlt1).trans y0
  have z1 := (hb2.cell hlt1).trans y1
  have z2 := (hb2.cell hlt1).trans y2
  have z3 := (hb2.cell hlt1).trans y3
  have hB : Below w.heap.size w w2 := hBW.trans ((hb1.mono (Nat.le_of_lt hlt)).trans (hb2.mono (Nat.le_of_lt hlt1)))
  clear y0 y1 y2 y3 x0 x1 x2 x3
  have T3 := time3 t
  rcases time4 t with ⟨t0, t1, HT⟩ | ⟨t0, HT⟩ | ⟨t0, t1, HT⟩
  · rcases time3 g with ⟨g0, g1, HG⟩ | ⟨g0, HG⟩ | ⟨g0, g1, HG⟩
    · have H := HR.out
      rw [HT, HG] at H
      have HH : Hid (recB k t g ws = (true && (true && noneB ws))) := H
      clear H HT HG
      rcases T3 with ⟨t2, _, _⟩ | ⟨t2, _⟩ | ⟨t2, t3, _⟩
      · go_wp2_with fail
        go_ret
        exact ⟨ret_bool (by rw [HH.out]; exact len_none ws), hB⟩
      · go_wp2_with fail
        go_ret
        exact ⟨ret_bool (by rw [HH.out]; exact len_none ws), hB⟩
      · omega
    all_goals
      have H := HR.out
      rw [HT, HG] at H
      have HH : Hid (recB k t g ws = false) := H
      clear H HT HG
      rcases T3 with ⟨t2, _, _⟩ | ⟨t2, _⟩ | ⟨t2, t3, _⟩
      · go_wp2_with fail
        go_ret
        exact ⟨ret_bool HH.out.symm, hB⟩
      · go_wp2_with fail
        go_ret
        exact ⟨ret_bool HH.out.symm, hB⟩
      · omega
  all_goals
    have H := HR.out
    rw [HT] at H
    have HH : Hid (recB k t g ws = false) := H
    clear H HT
    rcases T3 with ⟨t2, _, _⟩ | ⟨t2, _⟩ | ⟨t2, t3, _⟩
    all_goals first | omega | skip
    all_goals
      go_wp2_with fail
      go_ret
      exact ⟨ret_bool HH.out.symm, hB⟩
set_option maxHeartbeats 1000000 in
set_option maxRecDepth 100000 in
theorem recorded_g (k t g : Int) (v : Value) (ws : List WrL) (w : World) (hv : WsAt w v ws) (hs : SizedAll ws) (hm : ws.length ≤ maxLen) (h4 : (k == 4) = false) (hg : (g != 0) = true) (HR : Hid (recB k t g ws = false)) :
    Calls Try.prog 42 #[recV k t g v] w fun e w' => e = .returned (.bool (recB k t g ws)) ∧ Below w.heap.size w w' := by
  obtain ⟨a, cap, rfl⟩ := hv.form
  obtain ⟨W, HW, hvW, hBW, hlt, x0, x1, x2, x3⟩ := rec_head k t g a cap ws w hv hs hm
  have hlen : ws.length < 9223372036854775808 := by unfold maxLen at hm; omega
  unfold recV
  go_enter Try.func42, Try.ntmps42
  go_wp2_with fail
  rw [← HW]
  clear HW
  refine (right_any _ ws _ 6 hvW hs hm (by omega)).mono ?_
  rintro e w1 ⟨rfl, hb1⟩
  have y0 := (hb1.cell hlt).trans x0
  have y1 := (hb1.cell hlt).trans x1
  have y2 := (hb1.cell hlt).trans x2
  have y3 := (hb1.cell hlt).trans x3
  have hlt1 : w.heap.size < w1.heap.size := Nat.lt_of_lt_of_le hlt hb1.size
  go_wp2_with fail
  refine (right_any _ ws _ 1 (hvW.below hb1) hs hm (by omega)).mono ?_
  rintro e w2 ⟨rfl, hb2⟩
  have hv2 := (hvW.below hb1).below hb2
  have z0 := (hb2.cell hlt1).trans y0
  have z1 := (hb2.cell hlt1).trans y1
  have z2 := (hb2.cell hlt1).trans y2
  have z3 := (hb2.cell hlt1).trans y3
  have hB : Below w.heap.size w w2 := hBW.trans ((hb1.mono (Nat.le_of_lt hlt)).trans (hb2.mono (Nat.le_of_lt hlt1)))
  clear y0 y1 y2 y3 x0 x1 x2 x3
  rcases time3 t with ⟨t0, t1, HT⟩ | ⟨t0, HT⟩ | ⟨t0, t1, HT⟩
  all_goals
    clear HT
    go_wp2_with fail
    go_ret
    exact ⟨ret_bool HR.out.symm, hB⟩
set_option maxHeartbeats 1000000 in
set_option maxRecDepth 100000 in
theorem recorded_1 (k t g : Int) (v : Value) (ws : List WrL) (w : World) (hv : WsAt w v ws) (hs : SizedAll ws) (hm : ws.length ≤ maxLen) (h4 : (k == 4) = false) (hg : (g != 0) = false) (h1 : (k == 1) = true) (HR : Hid (recB k t g ws = (timeB t && (decide (g = 0) && wsB ws 6)))) :
    Calls Try.prog 42 #[recV k t g v] w fun e w' => e = .returned (.bool (recB k t g ws)) ∧ Below w.heap.size w w' := by
  obtain ⟨a, cap, rfl⟩ := hv.form
  obtain ⟨W, HW, hvW, hBW, hlt, x0, x1, x2, x3⟩ := rec_head k t g a cap ws w hv hs hm
  have hlen : ws.length < 9223372036854775808 := by unfold maxLen at hm; omega
  unfold recV
  go_enter Try.func42, Try.ntmps42
  go_wp2_with fail
  rw [← HW]
  clear HW
  refine (right_any _ ws _ 6 hvW hs hm (by omega)).mono ?_
  rintro e w1 ⟨rfl, hb1⟩
  have y0 := (hb1.cell hlt).trans x0
  have y1 := (hb1.cell hlt).trans x1
  have y2 := (hb1.cell hlt).trans x2
  have y3 := (hb1.cell hlt).trans x3
  have hlt1 : w.heap.size < w1.heap.size := Nat.lt_of_lt_of_le hlt hb1.size
  go_wp2_with fail
  refine (right_any _ ws _ 1 (hvW.below hb1) hs hm (by omega)).mono ?_
  rintro e w2 ⟨rfl, hb2⟩
  have hv2 := (hvW.below hb1).below hb2
  have z0 := (hb2.cell hlt1).trans y0
  have z1 := (hb2.cell hlt1).trans y1
  have z2 := (hb2.cell hlt1).trans y2
  have z3 := (hb2.cell hlt1).trans y3
  have hB : Below w.heap.size w w2 := hBW.trans ((hb1.mono (Nat.le_of_lt hlt)).trans (hb2.mono (Nat.le_of_lt hlt1)))
  clear y0 y1 y2 y3 x0 x1 x2 x3
  have hg0 : decide (g = 0) = true := by simpa using hg
  rcases time3 t with ⟨t0, t1, HT⟩ | ⟨t0, HT⟩ | ⟨t0, t1, HT⟩
  · have H := HR.out
    rw [HT, hg0] at H
    have HH : Hid (recB k t g ws = (true && (true && wsB ws 6))) := H
    clear H HT hg0
    go_wp2_with fail
    go_ret
    exact ⟨ret_bool (by rw [HH.out]; rfl), hB⟩
  all_goals
    have H := HR.out
    rw [HT] at H
    have HH : Hid (recB k t g ws = false) := H
    clear H HT hg0
    go_wp2_with fail
    go_ret
    exact ⟨ret_bool HH.out.symm, hB⟩
set_option maxHeartbeats 1000000 in
set_option maxRecDepth 100000 in
theorem recorded_2 (k t g : Int) (v : Value) (ws : List WrL) (w : World) (hv : WsAt w v ws) (hs : SizedAll ws) (hm : ws.length ≤ maxLen) (h4 : (k == 4) = false) (hg : (g != 0) = false) (h1 : (k == 1) = false) (h2 : (k == 2) = true) (HR : Hid (recB k t g ws = (timeB t && (decide (g = 0) && wsB ws 6)))) :
    Calls Try.prog 42 #[recV k t g v] w fun e w' => e = .returned (.bool (recB k t g ws)) ∧ Below w.heap.size w w' := by
  obtain ⟨a, cap, rfl⟩ := hv.form
  obtain ⟨W, HW, hvW, hBW, hlt, x0, x1, x2, x3⟩ := rec_head k t g a cap ws w hv hs hm
  have hlen : ws.length < 9223372036854775808 := by unfold maxLen at hm; omega
  unfold recV
  go_enter Try.func42, Try.ntmps42
  go_wp2_with fail
  rw [← HW]
  clear HW
  refine (right_any _ ws _ 6 hvW hs hm (by omega)).mono ?_
  rintro e w1 ⟨rfl, hb1⟩
  have y0 := (hb1.cell hlt).trans x0
  have y1 := (hb1.cell hlt).trans x1
  have y2 := (hb1.cell hlt).trans x2
  have y3 := (hb1.cell hlt).trans x3
  have hlt1 : w.heap.size < w1.heap.size := Nat.lt_of_lt_of_le hlt hb1.size
  go_wp2_with fail
  refine (right_any _ ws _ 1 (hvW.below hb1) hs hm (by omega)).mono ?_
  rintro e w2 ⟨rfl, hb2⟩
  have hv2 := (hvW.below hb1).below hb2
  have z0 := (hb2.cell hlt1).trans y0
  have z1 := (hb2.cell hlt1).trans y1
  have z2 := (hb2.cell hlt1).trans y2
  have z3 := (hb2.cell hlt1).trans y3
  have hB : Below w.heap.size w w2 := hBW.trans ((hb1.mono (Nat.le_of_lt hlt)).trans (hb2.mono (Nat.le_of_lt hlt1)))
  clear y0 y1 y2 y3 x0 x1 x2 x3
  have hg0 : decide (g = 0) = true := by simpa using hg
  rcases time3 t with ⟨t0, t1, HT⟩ | ⟨t0, HT⟩ | ⟨t0, t1, HT⟩
  · have H := HR.out
    rw [HT, hg0] at H
    have HH : Hid (recB k t g ws = (true && (true && wsB ws 6))) := H
    clear H HT hg0
    go_wp2_with fail
    go_ret
    exact ⟨ret_bool (by rw [HH.out]; rfl), hB⟩
  all_goals
    have H := HR.out
    rw [HT] at H
    have HH : Hid (recB k t g ws = false) := H
    clear H HT hg0
    go_wp2_with fail
    go_ret
    exact ⟨ret_bool HH.out.symm, hB⟩
set_option maxHeartbeats 1000000 in
set_option maxRecDepth 100000 in
theorem recorded_3 (k t g : Int) (v : Value) (ws : List WrL) (w : World) (hv : WsAt w v ws) (hs : SizedAll ws) (hm : ws.length ≤ maxLen) (h4 : (k == 4) = false) (hg : (g != 0) = false) (h1 : (k == 1) = false) (h2 : (k == 2) = false) (h3 : (k == 3) = true) (HR : Hid (recB k t g ws = (timeB t && (decide (g = 0) && noneB ws)))) :
    Calls Try.prog 42 #[recV k t g v] w fun e w' => e = .returned (.bool (recB k t g ws)) ∧ Below w.heap.size w w' := by
  obtain ⟨a, cap, rfl⟩ := hv.form
  obtain ⟨W, HW, hvW, hBW, hlt, x0, x1, x2, x3⟩ := rec_head k t g a cap ws w hv hs hm
  have hlen : ws.length < 9223372036854775808 := by unfold maxLen at hm; omega
  unfold recV
  go_enter Try.func42, Try.ntmps42
  go_wp2_with fail
  rw [← HW]
  clear HW
  refine (right_any _ ws _ 6 hvW hs hm (by omega)).mono ?_
  rintro e w1 ⟨rfl, hb1⟩
  have y0 := (hb1.cell hlt).trans x0
  have y1 := (hb1.cell hlt).trans x1
  have y2 := (hb1.cell hlt).trans x2
  have y3 := (hb1.cell hlt).trans x3
  have hlt1 : w.heap.size < w1.heap.size := Nat.lt_of_lt_of_le hlt hb1.size
  go_wp2_with fail
  refine (right_any _ ws _ 1 (hvW.below hb1) hs hm (by omega)).mono ?_
  rintro e w2 ⟨rfl, hb2⟩
  have hv2 := (hvW.below hb1).below hb2
  have z0 := (hb2.cell hlt1).trans y0
  have z1 := (hb2.cell hlt1).trans y1
  have z2 := (hb2.cell hlt1).trans y2
  have z3 := (hb2.cell hlt1).trans y3
  have hB : Below w.heap.size w w2 := hBW.trans ((hb1.mono (Nat.le_of_lt hlt)).trans (hb2.mono (Nat.le_of_lt hlt1)))
  clear y0 y1 y2 y3 x0 x1 x2 x3
  have hg0 : decide (g = 0) = true := by simpa using hg
  rcases time3 t with ⟨t0, t1, HT⟩ | ⟨t0, HT⟩ | ⟨t0, t1, HT⟩
  · have H := HR.out
    rw [HT, hg0] at H
    have HH : Hid (recB k t g ws = (true && (true && noneB ws))) := H
    clear H HT hg0
    go_wp2_with fail
    go_ret
    exact ⟨ret_bool (by rw [HH.out]; exact len_none ws), hB⟩
  all_goals
    have H := HR.out
    rw [HT] at H
    have HH : Hid (recB k t g ws = false) := H
    clear H HT hg0
    go_wp2_with fail
    go_ret
    exact ⟨ret_bool HH.out.symm, hB⟩
set_option maxHeartbeats 1000000 in
set_option maxRecDepth 100000 in
theorem recorded_5 (k t g : Int) (v : Value) (ws : List WrL) (w : World) (hv : WsAt w v ws) (hs : SizedAll ws) (hm : ws.length ≤ maxLen) (h4 : (k == 4) = false) (hg : (g != 0) = false) (h1 : (k == 1) = false) (h2 : (k == 2) = false) (h3 : (k == 3) = false) (h5 : (k == 5) = true) (HR : Hid (recB k t g ws = (timeB t && (decide (g = 0) && itemB ws)))) :
    Calls Try.prog 42 #[recV k t g v] w fun e w' => e = .returned (.bool (recB k t g ws)) ∧ Below w.heap.size w w' := by
  obtain ⟨a, cap, rfl⟩ := hv.form
  obtain ⟨W, HW, hvW, hBW, hlt, x0, x1, x2, x3⟩ := rec_head k t g a cap ws w hv hs hm
  have hlen : ws.length < 9223372036854775808 := by unfold maxLen at hm; omega
  unfold recV
  go_enter Try.func42, Try.ntmps42
  go_wp2_with fail
  rw [← HW]
  clear HW
  refine (right_any _ ws _ 6 hvW hs hm (by omega)).mono ?_
  rintro e w1 ⟨rfl, hb1⟩
  have y0 := (hb1.cell hlt).trans x0
  have y1 := (hb1.cell hlt).trans x1
  have y2 := (hb1.cell hlt).trans x2
  have y3 := (hb1.cell hlt).trans x3
  have hlt1 : w.heap.size < w1.heap.size := Nat.lt_of_lt_of_le hlt hb1.size
  go_wp2_with fail
  refine (right_any _ ws _ 1 (hvW.below hb1) hs hm (by omega)).mono ?_
  rintro e w2 ⟨rfl, hb2⟩
  have hv2 := (hvW.below hb1).below hb2
  have z0 := (hb2.cell hlt1).trans y0
  have z1 := (hb2.cell hlt1).trans y1
  have z2 := (hb2.cell hlt1).trans y2
  have z3 := (hb2.cell hlt1).trans y3
  have hB : Below w.heap.size w w2 := hBW.trans ((hb1.mono (Nat.le_of_lt hlt)).trans (hb2.mono (Nat.le_of_lt hlt1)))
  clear y0 y1 y2 y3 x0 x1 x2 x3
  have hg0 : decide (g = 0) = true := by simpa using hg
  rcases time3 t with ⟨t0, t1, HT⟩ | ⟨t0, HT⟩ | ⟨t0, t1, HT⟩
  · have H := HR.out
    rw [HT, hg0] at H
    have HH : Hid (recB k t g ws = itemB ws) := H
    clear H HT hg0
    cases hone : wsB ws 1
    · have HI : Hid (itemB ws = false) := itemB_one ws hone
      go_wp2_with fail
      go_ret
      exact ⟨ret_bool (by rw [HH.out, HI.out]), hB⟩
    · obtain ⟨r, hr, hi⟩ := one_yes ws hone
      have HI : Hid (itemB ws = !r.dead) := hi
      rcases hv2 with ⟨_, h⟩ | ⟨b, off, cap', he, hc⟩
      · rw [hr] at h; cases h
      · injection he with he1 he2 he3
        subst he1
        have hd : w2.cell? ⟨b, off + 1, none⟩ = some (.bool r.dead) := by
          have := (hc 0 (by rw [hr]; simp)).2.1
          simpa [hr] using this
        have hp : (0 : Int) < (ws.length : Int) := by rw [hr]; simp
        have hp2 : 0 < ws.length := by rw [hr]; simp
        clear hi hr
        go_wp2_with fail
        go_ret
        exact ⟨ret_bool (by rw [HH.out, HI.out]), hB⟩
  all_goals
    have H := HR.out
    rw [HT] at H
    have HH : Hid (recB k t g ws = false) := H
    clear H HT hg0
    go_wp2_with fail
    go_ret
    exact ⟨ret_bool HH.out.symm, hB⟩
set_option maxHeartbeats 1000000 in
set_option maxRecDepth 100000 in
theorem recorded_6 (k t g : Int) (v : Value) (ws : List WrL) (w : World) (hv : WsAt w v ws) (hs : SizedAll ws) (hm : ws.length ≤ maxLen) (h4 : (k == 4) = false) (hg : (g != 0) = false) (h1 : (k == 1) = false) (h2 : (k == 2) = false) (h3 : (k == 3) = false) (h5 : (k == 5) = false) (h6 : (k == 6) = true) (HR : Hid (recB k t g ws = (decide (t = 0) && (decide (g = 0) && noneB ws)))) :
    Calls Try.prog 42 #[recV k t g v] w fun e w' => e = .returned (.bool (recB k t g ws)) ∧ Below w.heap.size w w' := by
  obtain ⟨a, cap, rfl⟩ := hv.form
  obtain ⟨W, HW, hvW, hBW, hlt, x0, x1, x2, x3⟩ := rec_head k t g a cap ws w hv hs hm
  have hlen : ws.length < 9223372036854775808 := by unfold maxLen at hm; omega
  unfold recV
  go_enter Try.func42, Try.ntmps42
  go_wp2_with fail
  rw [← HW]
  clear HW
  refine (right_any _ ws _ 6 hvW hs hm (by omega)).mono ?_
  rintro e w1 ⟨rfl, hb1⟩
  have y0 := (hb1.cell hlt).trans x0
  have y1 := (hb1.cell hlt).trans x1
  have y2 := (hb1.cell hlt).trans x2
  have y3 := (hb1.cell hlt).trans x3
  have hlt1 : w.heap.size < w1.heap.size := Nat.lt_of_lt_of_le hlt hb1.size
  go_wp2_with fail
  refine (right_any _ ws _ 1 (hvW.below hb1) hs hm (by omega)).mono ?_
  rintro e w2 ⟨rfl, hb2⟩
  have hv2 := (hvW.below hb1).below hb2
  have z0 := (hb2.cell hlt1).trans y0
  have z1 := (hb2.cell hlt1).trans y1
  have z2 := (hb2.cell hlt1).trans y2
  have z3 := (hb2.cell hlt1).trans y3
  have hB : Below w.heap.size w w2 := hBW.trans ((hb1.mono (Nat.le_of_lt hlt)).trans (hb2.mono (Nat.le_of_lt hlt1)))
  clear y0 y1 y2 y3 x0 x1 x2 x3
  have hg0 : decide (g = 0) = true := by simpa using hg
  have H := HR.out
  rw [hg0] at H
  cases ht : (t == 0)
  · rw [beq_dec t ht] at H
    have HH : Hid (recB k t g ws = false) := H
    clear H hg0
    rcases time3 t with ⟨t0, t1, HT⟩ | ⟨t0, HT⟩ | ⟨t0, t1, HT⟩
    all_goals
      clear HT
      go_wp2_with fail
      go_ret
      exact ⟨ret_bool HH.out.symm, hB⟩
  · rw [beq_dec t ht] at H
    have HH : Hid (recB k t g ws = (true && (true && noneB ws))) := H
    have t0 : ¬ 0 < t := by have : t = 0 := by simpa using ht
                            omega
    clear H hg0
    go_wp2_with fail
    go_ret
    exact ⟨ret_bool (by rw [HH.out]; exact len_none ws), hB⟩
set_option maxHeartbeats 1000000 in
set_option maxRecDepth 100000 in
theorem recorded_0 (k t g : Int) (v : Value) (ws : List WrL) (w : World) (hv : WsAt w v ws) (hs : SizedAll ws) (hm : ws.length ≤ maxLen) (h4 : (k == 4) = false) (hg : (g != 0) = false) (h1 : (k == 1) = false) (h2 : (k == 2) = false) (h3 : (k == 3) = false) (h5 : (k == 5) = false) (h6 : (k == 6) = false) (HR : Hid (recB k t g ws = false)) :
    Calls Try.prog 42 #[recV k t g v] w fun e w' => e = .returned (.bool (recB k t g ws)) ∧ Below w.heap.size w w' := by
  obtain ⟨a, cap, rfl⟩ := hv.form
  obtain ⟨W, HW, hvW, hBW, hlt, x0, x1, x2, x3⟩ := rec_head k t g a cap ws w hv hs hm
  have hlen : ws.length < 9223372036854775808 := by unfold maxLen at hm; omega
  unfold recV
  go_enter Try.func42, Try.ntmps42
  go_wp2_with fail
  rw [← HW]
  clear HW
  refine (right_any _ ws _ 6 hvW hs hm (by omega)).mono ?_
  rintro e w1 ⟨rfl, hb1⟩
  have y0 := (hb1.cell hlt).trans x0
  have y1 := (hb1.cell hlt).trans x1
  have y2 := (hb1.cell hlt).trans x2
  have y3 := (hb1.cell hlt).trans x3
  have hlt1 : w.heap.size < w1.heap.size := Nat.lt_of_lt_of_le hlt hb1.size
  go_wp2_with fail
  refine (right_any _ ws _ 1 (hvW.below hb1) hs hm (by omega)).mono ?_
  rintro e w2 ⟨rfl, hb2⟩
  have hv2 := (hvW.below hb1).below hb2
  have z0 := (hb2.cell hlt1).trans y0
  have z1 := (hb2.cell hlt1).trans y1
  have z2 := (hb2.cell hlt1).trans y2
  have z3 := (hb2.cell hlt1).trans y3
  have hB : Below w.heap.size w w2 := hBW.trans ((hb1.mono (Nat.le_of_lt hlt)).trans (hb2.mono (Nat.le_of_lt hlt1)))
  clear y0 y1 y2 y3 x0 x1 x2 x3
  rcases time3 t with ⟨t0, t1, HT⟩ | ⟨t0, HT⟩ | ⟨t0, t1, HT⟩
  all_goals
    clear HT
    go_wp2_with fail
    go_ret
    exact ⟨ret_bool HR.out.symm, hB⟩
theorem recorded_any (k t g : Int) (v : Value) (ws : List WrL) (w : World) (hv : WsAt w v ws) (hs : SizedAll ws) (hm : ws.length ≤ maxLen) :
    Calls Try.prog 42 #[recV k t g v] w fun e w' => e = .returned (.bool (recB k t g ws)) ∧ Below w.heap.size w w' := by
  have ne : ∀ n : Int, k ≠ n → (k == n) = false := fun n h => beq_eq_false_iff_ne.2 h
  by_cases h4 : k = 4
  · exact recorded_4 k t g v ws w hv hs hm (by simp [h4]) (by show _ = _; unfold recB; rw [if_neg (by omega), if_neg (by omega), if_pos h4])
  by_cases hg : g = 0
  · have hg' : (g != 0) = false := by simp [hg]
    by_cases h1 : k = 1
    · exact recorded_1 k t g v ws w hv hs hm (ne _ h4) hg' (by simp [h1]) (by show _ = _; unfold recB; rw [if_pos (by omega)])
    by_cases h2 : k = 2
    · exact recorded_2 k t g v ws w hv hs hm (ne _ h4) hg' (ne _ h1) (by simp [h2]) (by show _ = _; unfold recB; rw [if_pos (by omega)])
    by_cases h3 : k = 3
    · exact recorded_3 k t g v ws w hv hs hm (ne _ h4) hg' (ne _ h1) (ne _ h2) (by simp [h3]) (by show _ = _; unfold recB; rw [if_neg (by omega), if_pos h3])
    by_cases h5 : k = 5
    · exact recorded_5 k t g v ws w hv hs hm (ne _ h4) hg' (ne _ h1) (ne _ h2) (ne _ h3) (by simp [h5]) (by show _ = _; unfold recB; rw [if_neg (by omega), if_neg h3, if_neg h4, if_pos h5])
    by_cases h6 : k = 6
    · exact recorded_6 k t g v ws w hv hs hm (ne _ h4) hg' (ne _ h1) (ne _ h2) (ne _ h3) (ne _ h5) (by simp [h6]) (by show _ = _; unfold recB; rw [if_neg (by omega), if_neg h3, if_neg h4, if_neg h5, if_pos h6])
    · exact recorded_0 k t g v ws w hv hs hm (ne _ h4) hg' (ne _ h1) (ne _ h2) (ne _ h3) (ne _ h5) (ne _ h6) (by show _ = _; unfold recB; rw [if_neg (by omega), if_neg h3, if_neg h4, if_neg h5, if_neg h6])
  · have hd : decide (g = 0) = false := decide_eq_false hg
    refine recorded_g k t g v ws w hv hs hm (ne _ h4) (by simpa using hg) ?_
    show _ = _
    unfold recB
    rw [hd]
    simp [h4]
end Go.Proofs.Ytneepapppbchnaa
