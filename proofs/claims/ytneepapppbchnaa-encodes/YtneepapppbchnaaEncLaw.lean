/- The walk of Encodes. -/
import Derived.Test.YtneepapppbchnaaLent
namespace Go.Proofs.Ytneepapppbchnaa
open Go.RowKit
set_option linter.unusedVariables false

theorem LentRow.kept {w w' : World} {g : Nat} {ws rows : List WrL} (h : LentRow w g ws rows) (hb : w'.heap[g]? = w.heap[g]?) : LentRow w' g ws rows := ⟨h.1.kept hb, h.2⟩
theorem LentRow.at {w : World} {g : Nat} {ws rows : List WrL} (h : LentRow w g ws rows) : CellsAt w g 0 ws := h.1.part (by rw [h.2.1]; omega) h.2.2.1

set_option maxHeartbeats 1000000 in
set_option maxRecDepth 100000 in
theorem encodes_some (k t g : Int) (b off cap : Nat) (ws : List WrL) (w : World) (hc : CellsAt w b off ws) (hs : SizedAll ws) (hm : ws.length * 40 ≤ 140737488355328) (hbw : 0 < ws.length → b < w.heap.size) :
    Calls Try.prog 12 #[recV k t g (.slice (some ⟨b, off, none⟩) ws.length cap)] w fun e w' => e = .returned (.bool true) ∧ Below w.heap.size w w' := by
  have hml : ws.length ≤ maxLen := by unfold maxLen; omega
  have hv : WsAt w (.slice (some ⟨b, off, none⟩) ws.length cap) ws := .inr ⟨b, off, cap, rfl, hc⟩
  obtain ⟨W, HW, hvW, hBW, hlt, x0, x1, x2, x3⟩ := rec_head k t g (some ⟨b, off, none⟩) cap ws w hv hs hml
  have hcW : CellsAt W b off ws := by rw [HW]; exact hc.below (box_below _ _)
  unfold recV
  go_enter Try.func12, Try.ntmps12
  go_wp2_with fail
  rw [← HW]
  clear HW
  refine (lent_some b off cap ws _ hcW hm).mono ?_
  rintro e w1 ⟨q, rows, rfl, hqW, hl1, hb1⟩
  have y0 := (hb1.cell hlt).trans x0
  have y1 := (hb1.cell hlt).trans x1
  have y2 := (hb1.cell hlt).trans x2
  have y3 := (hb1.cell hlt).trans x3
  have hlt1 : w.heap.size < w1.heap.size := Nat.lt_of_lt_of_le hlt hb1.size
  have hB1 : Below w.heap.size w w1 := hBW.trans (hb1.mono (Nat.le_of_lt hlt))
  have hcw1 := hcW.below hb1
  have hq1 := hl1.1.lt
  clear x0 x1 x2 x3
  have hE := pEncode_any k t g (.slice (some ⟨q, 0, none⟩) ws.length (ws.length + 8)) ws (w1.alloc (.cells #[.int .i64 k, .int .i64 t, .int .i64 g, .slice (some ⟨q, 0, none⟩) ws.length (ws.length + 8)] 32)) (.inr ⟨q, 0, _, rfl, hl1.at.below (box_below _ _)⟩) hs hml
  unfold recV at hE
  have hBx := box_below w1 (.cells #[.int .i64 k, .int .i64 t, .int .i64 g, .slice (some ⟨q, 0, none⟩) ws.length (ws.length + 8)] 32)
  go_wp2_with fail
  refine hE.mono ?_
  rintro e w2 ⟨rfl, hb2'⟩
  have hb2 : Below w1.heap.size w1 w2 := box_then hb2'
  clear hE hb2' hBx
  have z0 := (hb2.cell hlt1).trans y0
  have z1 := (hb2.cell hlt1).trans y1
  have z2 := (hb2.cell hlt1).trans y2
  have z3 := (hb2.cell hlt1).trans y3
  have hlt2 : w.heap.size < w2.heap.size := Nat.lt_of_lt_of_le hlt1 hb2.size
  have hB2 : Below w.heap.size w w2 := hB1.trans (hb2.mono (Nat.le_of_lt hlt1))
  have hcw2 := hcw1.below hb2
  have hl2 : LentRow w2 q ws rows := hl1.kept (hb2.block q hq1)
  have hq2 := hl2.1.lt
  clear y0 y1 y2 y3
  have hR := rEncode_any k t g (.slice (some ⟨b, off, none⟩) ws.length cap) ws w2 (.inr ⟨b, off, cap, rfl, hcw2⟩) hs hml
  unfold recV at hR
  generalize encS k t g ws = sx at *
  generalize encE k t g ws = ex at *
  go_wp2_with fail
  refine hR.mono ?_
  rintro e w3 ⟨rfl, hb3⟩
  have a3 := (hb3.cell hlt2).trans z3
  have hlt3 : w.heap.size < w3.heap.size := Nat.lt_of_lt_of_le hlt2 hb3.size
  have hB3 : Below w.heap.size w w3 := hB2.trans (hb3.mono (Nat.le_of_lt hlt2))
  have hcw3 := hcw2.below hb3
  have hl3 : LentRow w3 q ws rows := hl2.kept (hb3.block q hq2)
  clear z0 z1 z2 z3 hR
  go_wp2_with fail
  refine (whole_some q b off cap W.heap.size ws rows w3 hcw3 (fun hp => Nat.lt_of_lt_of_le (hbw hp) (Nat.le_of_lt hlt)) hqW hl3 hm).mono ?_
  rintro e w4 ⟨rfl, hb4⟩
  go_wp2_with (go_at_call 22; refine (num_any ex _).mono ?_; rintro e w5 ⟨rfl, rfl⟩)
  go_ret
  exact ⟨rfl, hB3.trans (hb4.mono (Nat.le_of_lt hlt))⟩
set_option maxHeartbeats 1000000 in
set_option maxRecDepth 100000 in
theorem encodes_nil (k t g : Int) (w : World) :
    Calls Try.prog 12 #[recV k t g (.slice none 0 0)] w fun e w' => e = .returned (.bool true) ∧ Below w.heap.size w w' := by
  have hv : WsAt w (.slice none ([] : List WrL).length 0) [] := .inl ⟨rfl, rfl⟩
  have hs : SizedAll [] := fun i h => absurd h (by simp)
  obtain ⟨W, HW, hvW, hBW, hlt, x0, x1, x2, x3⟩ := rec_head k t g none 0 [] w hv hs (Nat.zero_le _)
  simp only [List.length_nil] at HW x3 hvW
  unfold recV
  go_enter Try.func12, Try.ntmps12
  go_wp2_with fail
  rw [← HW]
  clear HW
  refine (lent_nil _).mono ?_
  rintro e w1 ⟨rfl, rfl⟩
  have hE := pEncode_any k t g (.slice none 0 0) [] (w1.alloc (.cells #[.int .i64 k, .int .i64 t, .int .i64 g, .slice none 0 0] 32)) (.inl ⟨rfl, rfl⟩) hs (Nat.zero_le _)
  unfold recV at hE
  go_wp2_with fail
  refine hE.mono ?_
  rintro e w2 ⟨rfl, hb2'⟩
  have hb2 : Below w1.heap.size w1 w2 := box_then hb2'
  clear hE hb2'
  have z0 := (hb2.cell hlt).trans x0
  have z1 := (hb2.cell hlt).trans x1
  have z2 := (hb2.cell hlt).trans x2
  have z3 := (hb2.cell hlt).trans x3
  have hlt2 : w.heap.size < w2.heap.size := Nat.lt_of_lt_of_le hlt hb2.size
  have hB2 : Below w.heap.size w w2 := hBW.trans (hb2.mono (Nat.le_of_lt hlt))
  have hR := rEncode_any k t g (.slice none 0 0) [] w2 (.inl ⟨rfl, rfl⟩) hs (Nat.zero_le _)
  unfold recV at hR
  generalize encS k t g [] = sx at *
  generalize encE k t g [] = ex at *
  clear x0 x1 x2 x3
  go_wp2_with fail
  refine hR.mono ?_
  rintro e w3 ⟨rfl, hb3⟩
  have a3 := (hb3.cell hlt2).trans z3
  have hB3 : Below w.heap.size w w3 := hB2.trans (hb3.mono (Nat.le_of_lt hlt2))
  clear z0 z1 z2 z3 hR
  go_wp2_with fail
  refine (whole_nil _ w3).mono ?_
  rintro e w4 ⟨rfl, rfl⟩
  go_wp2_with (go_at_call 22; refine (num_any ex _).mono ?_; rintro e w5 ⟨rfl, rfl⟩)
  go_ret
  exact ⟨rfl, hB3⟩
theorem encodes_any (k t g : Int) (v : Value) (ws : List WrL) (w : World) (hv : WsAt w v ws) (hs : SizedAll ws) (hm : ws.length * 40 ≤ 140737488355328) :
    Calls Try.prog 12 #[recV k t g v] w fun e w' => e = .returned (.bool true) ∧ Below w.heap.size w w' := by
  rcases hv with ⟨rfl, rfl⟩ | ⟨b, off, cap, rfl, hc⟩
  · exact encodes_nil k t g w
  · exact encodes_some k t g b off cap ws w hc hs hm (fun hp => hc.lt hp)
set_option maxHeartbeats 400000 in
theorem Encodes_any (k t g : Int) (v : Value) (ws : List WrL) (w : World) (hv : WsAt w v ws) (hs : SizedAll ws) (hm : ws.length * 40 ≤ 140737488355328) :
    Calls Try.prog 5 #[recV k t g v] w fun e w' => e = .returned (.bool true) ∧ Below w.heap.size w w' := by
  have HI := encodes_any k t g v ws _ (hv.below (box_below w (.cells #[.int .i64 k, .int .i64 t, .int .i64 g, v] 32))) hs hm
  obtain ⟨a, cap, rfl⟩ := hv.form
  unfold recV at *
  go_enter Try.func5, Try.ntmps5
  go_wp2_with fail
  refine HI.mono ?_
  rintro e w1 ⟨rfl, hb1⟩
  go_wp2_with fail
  go_ret
  exact ⟨rfl, box_then hb1⟩
end Go.Proofs.Ytneepapppbchnaa
