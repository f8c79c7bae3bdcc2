/- The walk of begins, as far as disks go. -/
import Derived.Test.YtneepapppbchnaaGreatDStep2
namespace Go.Proofs.YtneepapppbchnaaGreat
open Go.RowKit
set_option linter.unusedVariables false

theorem WA.fresh (w : World) (B : Nat) (hB : B ≤ w.heap.size) : WA (w.alloc (.cells #[.slice none 0 0, .slice none 0 0, .slice none 0 0, .slice none 0 0, .slice none 0 0, .slice none 0 0] 55)) w.heap.size (.slice none 0 0) [] 0 B (fun _ _ => False) := by
  have hn := heap_alloc_new w (.cells #[.slice none 0 0, .slice none 0 0, .slice none 0 0, .slice none 0 0, .slice none 0 0, .slice none 0 0] 55)
  refine ⟨fun i hi => ?_, box_cell hn _ _ rfl, box_cell hn _ _ rfl, fun o => box_frozen hn o, World.ownsRow_nil _ 0 _ 2, fun i hi => absurd hi (by simp), fun i j hi => absurd hi (by simp), fun i hi => absurd hi (by simp), fun x hx => (by cases hx), hB⟩
  match i, hi with
  | 0, _ => exact box_cell hn _ _ rfl
  | 1, _ => exact box_cell hn _ _ rfl
  | 2, _ => exact box_cell hn _ _ rfl
  | 3, _ => exact box_cell hn _ _ rfl
set_option maxRecDepth 100000 in
set_option maxHeartbeats 400000 in
theorem begins_disks (w : World) :
    Calls Tryz.prog 18 #[.int .i64 10, .int .i64 16] w fun e w' => e = .returned (.bool true) ∧ Below w.heap.size w w' := by
  have HW := hide (WA.fresh w w.heap.size (Nat.le_refl _))
  have HB0 := hide (box_below w (.cells #[.slice none 0 0, .slice none 0 0, .slice none 0 0, .slice none 0 0, .slice none 0 0, .slice none 0 0] 55))
  go_enter Tryz.func18, Tryz.ntmps18
  go_wp2_with fail
  refine (step_disk _ 0 w.heap.size _ [] _ _ _ _ _ _ _ _ _ [] [] _ _ _ _ _ _ _ _ _ _ HW.out (by simp)).mono ?_
  rintro e w1 ⟨rfl, ⟨⟨v1, pls1, P1, h1, l1⟩, b1⟩⟩
  simp only [List.length_nil, Nat.zero_add] at h1 l1
  have hB1 := HB0.out.trans b1
  have H1 := hide h1
  have L1 := hide l1
  have HB1 := hide hB1
  clear h1 l1 b1 hB1 HW HB0
  go_wp2_with fail
  refine (step_file _ 1 w.heap.size _ v1 pls1 11 _ _ _ _ _ _ _ _ [110, 111, 32, 102, 114, 97, 109, 101] [] _ _ _ _ _ _ _ _ _ _ H1.out (by rw [L1.out]; decide) (by rw [L1.out]; decide) (by decide) (by decide) (by simp) (by decide) (by decide)).mono ?_
  rintro e w2 ⟨rfl, ⟨⟨v2, pls2, P2, h2, l2⟩, b2⟩⟩
  have hB2 := HB1.out.trans b2
  rw [L1.out] at l2
  have H2 := hide h2
  have L2 := hide l2
  have HB2 := hide hB2
  clear h2 l2 b2 hB2 H1 L1 HB1
  go_wp2_with fail
  refine (step_file _ 2 w.heap.size _ v2 pls2 14 _ _ _ _ _ _ _ _ [] [] _ _ _ _ _ _ _ _ _ _ H2.out (by rw [L2.out]; decide) (by rw [L2.out]; decide) (by decide) (by decide) (by simp) (by decide) (by decide)).mono ?_
  rintro e w3 ⟨rfl, ⟨⟨v3, pls3, P3, h3, l3⟩, b3⟩⟩
  have hB3 := HB2.out.trans b3
  rw [L2.out] at l3
  have c4 := h3.c4
  obtain ⟨va, vc, hva⟩ := own_form h3.row
  rw [hva, l3] at c4
  have HB3 := hide hB3
  clear h3 l3 b3 hB3 H2 L2 HB2 hva
  go_wp2_with fail
  go_ret
  exact ⟨rfl, HB3.out⟩
end Go.Proofs.YtneepapppbchnaaGreat
