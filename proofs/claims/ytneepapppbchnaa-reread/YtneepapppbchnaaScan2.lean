/- The walk of guess. -/
import Derived.Test.YtneepapppbchnaaScan1
namespace Go.Proofs.Ytneepapppbchnaa
open Go.RowKit
set_option linter.unusedVariables false

/-- the block r is a record -/
def RB (w : World) (r : Nat) (k t g : Int) (v : Value) : Prop := w.heap[r]? = some (.cells #[.int .i64 k, .int .i64 t, .int .i64 g, v] 32 (0, 0))
theorem RB.cells {w : World} {r : Nat} {k t g : Int} {v : Value} (h : RB w r k t g v) : w.cell? ⟨r, 0, none⟩ = some (.int .i64 k) ∧ w.cell? ⟨r, 1, none⟩ = some (.int .i64 t) ∧ w.cell? ⟨r, 2, none⟩ = some (.int .i64 g) ∧ w.cell? ⟨r, 3, none⟩ = some v := by
  unfold RB at h; simp [World.cell?, h]
theorem RB.frozen {w : World} {r : Nat} {k t g : Int} {v : Value} (h : RB w r k t g v) (o : Nat) : w.frozen? ⟨r, o, none⟩ = false := by
  unfold RB at h; simp [World.frozen?, h]
theorem RB.lt {w : World} {r : Nat} {k t g : Int} {v : Value} (h : RB w r k t g v) : r < w.heap.size := World.block_lt_of_cell? w _ h.cells.1
theorem RB.kept {w w' : World} {r : Nat} {k t g : Int} {v : Value} (h : RB w r k t g v) (hb : w'.heap[r]? = w.heap[r]?) : RB w' r k t g v := hb.trans h
theorem RB.set1 {w : World} {r : Nat} {k t g : Int} {v : Value} (h : RB w r k t g v) (t' : Int) : RB (w.setCell ⟨r, 1, none⟩ (.int .i64 t')) r k t' g v := by
  unfold RB at *; rw [heap_setCell_at w r 1 _ _ _ _ h]; rfl
theorem RB.set2 {w : World} {r : Nat} {k t g : Int} {v : Value} (h : RB w r k t g v) (g' : Int) : RB (w.setCell ⟨r, 2, none⟩ (.int .i64 g')) r k t g' v := by
  unfold RB at *; rw [heap_setCell_at w r 2 _ _ _ _ h]; rfl
theorem RB.set3 {w : World} {r : Nat} {k t g : Int} {v : Value} (h : RB w r k t g v) (v' : Value) : RB (w.setCell ⟨r, 3, none⟩ v') r k t g v' := by
  unfold RB at *; rw [heap_setCell_at w r 3 _ _ _ _ h]; rfl
theorem RB_new (w : World) (k t g : Int) (v : Value) : RB (w.alloc (.cells #[.int .i64 k, .int .i64 t, .int .i64 g, v] 32)) w.heap.size k t g v := heap_alloc_new w _
theorem Cur_new (w : World) (l : List UInt8) : Cur (w.alloc (.cells #[.string (textOf l)] 96)) w.heap.size l := heap_alloc_new w _

def gT (k : Nat) (p : List UInt8) : Nat := if k = 1 ∨ k = 2 ∨ k = 5 ∨ k = 3 ∨ k = 4 then numD (p.take 2) else 0
def gG (k : Nat) (p : List UInt8) : Nat := if k = 4 then numD ((p.drop 2).take 2) else 0
def gW (k : Nat) (p : List UInt8) : List WrL := if k = 1 ∨ k = 2 ∨ k = 5 then rdAll (p.drop 2) else []

theorem guess_start (w : World) (k : Nat) (p : List UInt8) : ∃ W, W = ((w.alloc (.cells #[.int .i64 0, .int .i64 0, .int .i64 0, .slice none 0 0] 32)).alloc (.cells #[.int .i64 k, .int .i64 0, .int .i64 0, .slice none 0 0] 32)).alloc (.cells #[.string (textOf p)] 96) ∧
    RB W w.heap.size 0 0 0 (.slice none 0 0) ∧ RB W (w.heap.size + 1) k 0 0 (.slice none 0 0) ∧ Cur W (w.heap.size + 1 + 1) p ∧ Below w.heap.size w W ∧ W.heap.size = w.heap.size + 3 := by
  refine ⟨_, rfl, ?_, ?_, ?_, ?_, by simp⟩
  · refine (RB_new w 0 0 0 (.slice none 0 0)).kept ?_
    rw [Below.heap_alloc _ _ _ (by simp; omega), Below.heap_alloc _ _ _ (by simp)]
  · have := RB_new (w.alloc (.cells #[.int .i64 0, .int .i64 0, .int .i64 0, .slice none 0 0] 32)) k 0 0 (.slice none 0 0)
    simp only [World.size_alloc] at this
    refine this.kept ?_
    rw [Below.heap_alloc _ _ _ (by simp)]
  · have := Cur_new ((w.alloc (.cells #[.int .i64 0, .int .i64 0, .int .i64 0, .slice none 0 0] 32)).alloc (.cells #[.int .i64 k, .int .i64 0, .int .i64 0, .slice none 0 0] 32)) p
    simpa using this
  · exact ((box_below w _).alloc (by simp) _).alloc (by simp; omega) _
theorem Cur.grown {w w' : World} {c r : Nat} {l : List UInt8} (h : Cur w c l) (hg : w.grownBy w' (some r)) (hne : c ≠ r) : Cur w' c l := (hg.block c h.lt (by intro e; injection e; omega)).trans h
theorem RB.grown {w w' : World} {c r : Nat} {k t g : Int} {v : Value} (h : RB w r k t g v) (hg : w.grownBy w' (some c)) (hne : r ≠ c) : RB w' r k t g v := h.kept (hg.block r h.lt (by intro e; injection e; omega))
theorem Cur.set_other {w : World} {c r o : Nat} {l : List UInt8} {v : Value} (h : Cur w c l) (hne : c ≠ r) : Cur (w.setCell ⟨r, o, none⟩ v) c l := (Below.heap_setCell w ⟨r, o, none⟩ v c hne).trans h
theorem RB.set_other {w : World} {r r' o : Nat} {k t g : Int} {v u : Value} (h : RB w r k t g v) (hne : r ≠ r') : RB (w.setCell ⟨r', o, none⟩ u) r k t g v := h.kept (Below.heap_setCell w ⟨r', o, none⟩ u r hne)
theorem below_of_grown_new {w W w' : World} {c : Nat} (hW : Below w.heap.size w W) (hs : w.heap.size ≤ W.heap.size) (hg : W.grownBy w' (some c)) (hc : w.heap.size ≤ c) : Below w.heap.size w w' :=
  hW.trans ((Below.refl _ _).grown hg hs (fun k hk => by injection hk with hk; omega))

theorem Ws.form {w : World} {v : Value} {rows : List WrL} (h : Ws w v rows) : ∃ a cap, v = .slice a rows.length cap := by
  rcases h.2 with ⟨rfl, h2⟩ | ⟨g, cap, cur, rfl, _⟩
  · exact ⟨none, 0, by rw [h2]⟩
  · exact ⟨_, _, rfl⟩
/-- the last step of guess: the record is laid into the result's place -/
theorem guess_end {w w2 : World} {r a : Nat} {k t g k' t' g' : Int} {v v' : Value} {rows : List WrL} {B : Nat} (hws : Ws w2 v rows) (hR : ∀ q, v.ownBlock = some q → q ≠ r ∧ q ≠ a) (hb : Below B w w2) (hBr : B ≤ r) (hBa : B ≤ a) (o : Nat) (x y0 y1 y2 y3 : Value) :
    Ws (((((w2.setCell ⟨r, o, none⟩ x).setCell ⟨a, 0, none⟩ y0).setCell ⟨a, 1, none⟩ y1).setCell ⟨a, 2, none⟩ y2).setCell ⟨a, 3, none⟩ y3) v rows ∧ Below B w (((((w2.setCell ⟨r, o, none⟩ x).setCell ⟨a, 0, none⟩ y0).setCell ⟨a, 1, none⟩ y1).setCell ⟨a, 2, none⟩ y2).setCell ⟨a, 3, none⟩ y3) := by
  refine ⟨hws.kept fun q hq => ?_, ((((hb.setCell hBr _).setCell hBa _).setCell hBa _).setCell hBa _).setCell hBa _⟩
  obtain ⟨h1, h2⟩ := hR q hq
  rw [Below.heap_setCell _ _ _ _ h2, Below.heap_setCell _ _ _ _ h2, Below.heap_setCell _ _ _ _ h2, Below.heap_setCell _ _ _ _ h2, Below.heap_setCell _ _ _ _ h1]
set_option maxHeartbeats 400000 in
set_option maxRecDepth 100000 in
theorem guess_1 (k : Nat) (p : List UInt8) (w : World) (hp : p.length ≤ 255) (hk : ((k : Int) == 1) = true ∨ ((k : Int) == 1) = false ∧ (((k : Int) == 2) = true ∨ ((k : Int) == 2) = false ∧ ((k : Int) == 5) = true)) :
    Calls Try.prog 63 #[.int .i64 k, .string (textOf p)] w fun e w' => ∃ v, e = .returned (.agg #[.int .i64 k, .int .i64 (numD (p.take 2) : Nat), .int .i64 0, v]) ∧ Ws w' v (rdAll (p.drop 2)) ∧ Newer w (.slice none 0 0) v ∧ Below w.heap.size w w' := by
  have hp2 : (p.drop 2).length ≤ 1000 := by rw [List.length_drop]; omega
  obtain ⟨W, HW, hA, hR, hC, hBW, hsW⟩ := guess_start w k p
  rcases hk with h1 | ⟨h1, h2 | ⟨h2, h5⟩⟩
  all_goals
    go_enter Try.func63, Try.ntmps63
    go_wp2_with fail
    rw [← HW]
    clear HW
    refine (cnumber_any _ 2 p _ hC (by omega) (by omega)).mono ?_
    rintro e w1 ⟨rfl, hc1, hg1⟩
    have hA1 := hA.grown hg1 (by omega)
    have hR1 := hR.grown hg1 (by omega)
    have hB1 := below_of_grown_new hBW (by omega) hg1 (by omega)
    obtain ⟨a0, a1, a2, a3⟩ := hR1.cells
    have f1 := hR1.frozen 1
    have hs1 : W.heap.size ≤ w1.heap.size := hg1.size
    go_wp2_with fail
    refine (cwrites_any _ (p.drop 2) _ (hc1.set_other (by omega)) hp2).mono ?_
    rintro e w2 ⟨v, rfl, hws, hnew, hc2, hg2⟩
    have hR2 := (hR1.set1 (numD (p.take 2) : Nat)).grown hg2 (by omega)
    have hA2 := (hA1.set_other (o := 1) (u := .int .i64 (numD (p.take 2) : Nat)) (show w.heap.size ≠ w.heap.size + 1 by omega)).grown hg2 (by omega)
    have hs2 : w1.heap.size ≤ w2.heap.size := by have := hg2.size; simpa using this
    have hB2 : Below w.heap.size w w2 := below_of_grown_new (hB1.setCell (show w.heap.size ≤ w.heap.size + 1 by omega) _) (by simp; omega) hg2 (by omega)
    obtain ⟨b0, b1, b2, b3⟩ := hR2.cells
    have g3 := hR2.frozen 3
    obtain ⟨e0, e1, e2, e3⟩ := hA2.cells
    have k0 := hA2.frozen 0
    have k1 := hA2.frozen 1
    have k2 := hA2.frozen 2
    have k3 := hA2.frozen 3
    clear a0 a1 a2 a3 f1
    obtain ⟨va, vc, rfl⟩ := hws.form
    have hq : ∀ q, (Value.slice va (rdAll (p.drop 2)).length vc).ownBlock = some q → q ≠ w.heap.size + 1 ∧ q ≠ w.heap.size := by
      intro q hq
      rcases hnew with e | ⟨q', e, hge⟩
      · rw [e] at hq; cases hq
      · rw [e] at hq; injection hq with hq; simp at hge; omega
    have hN : Newer w (.slice none 0 0) (Value.slice va (rdAll (p.drop 2)).length vc) := Newer.trans (w1 := w1.setCell ⟨w.heap.size + 1, 1, none⟩ (.int .i64 (numD (p.take 2) : Nat))) (Newer.refl _ _) (by simp; omega) hnew
    have HEND := guess_end (k := 0) (t := 0) (g := 0) (k' := 0) (t' := 0) (g' := 0) (v' := .slice none 0 0) (r := w.heap.size + 1) (a := w.heap.size) hws hq hB2 (by omega) (Nat.le_refl _) 3 (Value.slice va (rdAll (p.drop 2)).length vc) (.int .i64 k) (.int .i64 (numD (p.take 2) : Nat)) (.int .i64 0) (Value.slice va (rdAll (p.drop 2)).length vc)
    have HE : Hid _ := HEND
    clear HEND hq
    go_wp2_with fail
    exact bodyPost_ret (v := .agg #[.int .i64 k, .int .i64 (numD (p.take 2) : Nat), .int .i64 0, .slice va (rdAll (p.drop 2)).length vc]) (by simp [results, Try.results63, go_sem, e0, e1, e2, e3]) rfl ⟨_, rfl, HE.out.1, hN, HE.out.2⟩
theorem end4 {w w2 : World} {a : Nat} {B : Nat} (hb : Below B w w2) (hBa : B ≤ a) (y0 y1 y2 y3 : Value) : Below B w ((((w2.setCell ⟨a, 0, none⟩ y0).setCell ⟨a, 1, none⟩ y1).setCell ⟨a, 2, none⟩ y2).setCell ⟨a, 3, none⟩ y3) :=
  (((hb.setCell hBa _).setCell hBa _).setCell hBa _).setCell hBa _
set_option maxHeartbeats 400000 in
set_option maxRecDepth 100000 in
theorem guess_3 (k : Nat) (p : List UInt8) (w : World) (hp : p.length ≤ 255) (h1 : ((k : Int) == 1) = false) (h2 : ((k : Int) == 2) = false) (h5 : ((k : Int) == 5) = false) (h3 : ((k : Int) == 3) = true) :
    Calls Try.prog 63 #[.int .i64 k, .string (textOf p)] w fun e w' => e = .returned (.agg #[.int .i64 k, .int .i64 (numD (p.take 2) : Nat), .int .i64 0, .slice none 0 0]) ∧ Below w.heap.size w w' := by
  obtain ⟨W, HW, hA, hR, hC, hBW, hsW⟩ := guess_start w k p
  go_enter Try.func63, Try.ntmps63
  go_wp2_with fail
  rw [← HW]
  clear HW
  refine (cnumber_any _ 2 p _ hC (by omega) (by omega)).mono ?_
  rintro e w1 ⟨rfl, hc1, hg1⟩
  have hA1 := hA.grown hg1 (by omega)
  have hR1 := hR.grown hg1 (by omega)
  have hB1 := below_of_grown_new hBW (by omega) hg1 (by omega)
  obtain ⟨a0, a1, a2, a3⟩ := hR1.cells
  have f1 := hR1.frozen 1
  obtain ⟨e0, e1, e2, e3⟩ := hA1.cells
  have k0 := hA1.frozen 0
  have k1 := hA1.frozen 1
  have k2 := hA1.frozen 2
  have k3 := hA1.frozen 3
  go_wp2_with fail
  exact bodyPost_ret (v := .agg #[.int .i64 k, .int .i64 (numD (p.take 2) : Nat), .int .i64 0, .slice none 0 0]) (by simp [results, Try.results63, go_sem, e0, e1, e2, e3]) rfl ⟨rfl, end4 (hB1.setCell (show w.heap.size ≤ w.heap.size + 1 by omega) _) (Nat.le_refl _) _ _ _ _⟩
set_option maxHeartbeats 400000 in
set_option maxRecDepth 100000 in
theorem guess_4 (k : Nat) (p : List UInt8) (w : World) (hp : p.length ≤ 255) (h1 : ((k : Int) == 1) = false) (h2 : ((k : Int) == 2) = false) (h5 : ((k : Int) == 5) = false) (h3 : ((k : Int) == 3) = false) (h4 : ((k : Int) == 4) = true) :
    Calls Try.prog 63 #[.int .i64 k, .string (textOf p)] w fun e w' => e = .returned (.agg #[.int .i64 k, .int .i64 (numD (p.take 2) : Nat), .int .i64 (numD ((p.drop 2).take 2) : Nat), .slice none 0 0]) ∧ Below w.heap.size w w' := by
  have hp2 : (p.drop 2).length ≤ 100000 := by rw [List.length_drop]; omega
  obtain ⟨W, HW, hA, hR, hC, hBW, hsW⟩ := guess_start w k p
  go_enter Try.func63, Try.ntmps63
  go_wp2_with fail
  rw [← HW]
  clear HW
  refine (cnumber_any _ 2 p _ hC (by omega) (by omega)).mono ?_
  rintro e w1 ⟨rfl, hc1, hg1⟩
  have hA1 := hA.grown hg1 (by omega)
  have hR1 := hR.grown hg1 (by omega)
  have hB1 := below_of_grown_new hBW (by omega) hg1 (by omega)
  have hs1 : W.heap.size ≤ w1.heap.size := hg1.size
  obtain ⟨a0, a1, a2, a3⟩ := hR1.cells
  have f1 := hR1.frozen 1
  go_wp2_with fail
  refine (cnumber_any _ 2 (p.drop 2) _ (hc1.set_other (by omega)) (by omega) hp2).mono ?_
  rintro e w2 ⟨rfl, hc2, hg2⟩
  have hR2 := (hR1.set1 (numD (p.take 2) : Nat)).grown hg2 (by omega)
  have hA2 := (hA1.set_other (o := 1) (u := .int .i64 (numD (p.take 2) : Nat)) (show w.heap.size ≠ w.heap.size + 1 by omega)).grown hg2 (by omega)
  have hB2 : Below w.heap.size w w2 := below_of_grown_new (hB1.setCell (show w.heap.size ≤ w.heap.size + 1 by omega) _) (by simp; omega) hg2 (by omega)
  obtain ⟨b0, b1, b2, b3⟩ := hR2.cells
  have g2 := hR2.frozen 2
  obtain ⟨e0, e1, e2, e3⟩ := hA2.cells
  have k0 := hA2.frozen 0
  have k1 := hA2.frozen 1
  have k2 := hA2.frozen 2
  have k3 := hA2.frozen 3
  clear a0 a1 a2 a3 f1
  go_wp2_with fail
  exact bodyPost_ret (v := .agg #[.int .i64 k, .int .i64 (numD (p.take 2) : Nat), .int .i64 (numD ((p.drop 2).take 2) : Nat), .slice none 0 0]) (by simp [results, Try.results63, go_sem, e0, e1, e2, e3]) rfl ⟨rfl, end4 (hB2.setCell (show w.heap.size ≤ w.heap.size + 1 by omega) _) (Nat.le_refl _) _ _ _ _⟩
set_option maxHeartbeats 400000 in
set_option maxRecDepth 100000 in
theorem guess_0 (k : Nat) (p : List UInt8) (w : World) (hp : p.length ≤ 255) (h1 : ((k : Int) == 1) = false) (h2 : ((k : Int) == 2) = false) (h5 : ((k : Int) == 5) = false) (h3 : ((k : Int) == 3) = false) (h4 : ((k : Int) == 4) = false) :
    Calls Try.prog 63 #[.int .i64 k, .string (textOf p)] w fun e w' => e = .returned (.agg #[.int .i64 k, .int .i64 0, .int .i64 0, .slice none 0 0]) ∧ Below w.heap.size w w' := by
  obtain ⟨W, HW, hA, hR, hC, hBW, hsW⟩ := guess_start w k p
  have HW2 : Hid (Below w.heap.size w (((w.alloc (.cells #[.int .i64 0, .int .i64 0, .int .i64 0, .slice none 0 0] 32)).alloc (.cells #[.int .i64 k, .int .i64 0, .int .i64 0, .slice none 0 0] 32)).alloc (.cells #[.string (textOf p)] 96))) := by rw [← HW]; exact hBW
  clear HW hA hR hC hBW hsW
  go_enter Try.func63, Try.ntmps63
  go_wp2_with fail
  exact bodyPost_ret (v := .agg #[.int .i64 k, .int .i64 0, .int .i64 0, .slice none 0 0]) (by simp [results, Try.results63, go_sem]) rfl ⟨rfl, ((box_below w _).alloc (by simp) _).alloc (by simp; omega) _⟩
theorem guess_any (k : Nat) (p : List UInt8) (w : World) (hp : p.length ≤ 255) :
    Calls Try.prog 63 #[.int .i64 k, .string (textOf p)] w fun e w' => ∃ v, e = .returned (.agg #[.int .i64 k, .int .i64 (gT k p : Nat), .int .i64 (gG k p : Nat), v]) ∧ Ws w' v (gW k p) ∧ Newer w (.slice none 0 0) v ∧ Below w.heap.size w w' := by
  have ne : ∀ n : Nat, k ≠ n → ((k : Int) == (n : Int)) = false := fun n h => beq_eq_false_iff_ne.2 (by omega)
  by_cases hk : k = 1 ∨ k = 2 ∨ k = 5
  · have e1 : gT k p = numD (p.take 2) := by unfold gT; rw [if_pos (by omega)]
    have e2 : gG k p = 0 := by unfold gG; rw [if_neg (by omega)]
    have e3 : gW k p = rdAll (p.drop 2) := by unfold gW; rw [if_pos hk]
    rw [e1, e2, e3]
    refine guess_1 k p w hp ?_
    rcases hk with rfl | rfl | rfl
    · exact .inl rfl
    · exact .inr ⟨rfl, .inl rfl⟩
    · exact .inr ⟨rfl, .inr ⟨rfl, rfl⟩⟩
  · have e3 : gW k p = [] := by unfold gW; rw [if_neg hk]
    rw [e3]
    by_cases h3 : k = 3
    · have e1 : gT k p = numD (p.take 2) := by unfold gT; rw [if_pos (by omega)]
      have e2 : gG k p = 0 := by unfold gG; rw [if_neg (by omega)]
      rw [e1, e2]
      refine (guess_3 k p w hp (ne 1 (by omega)) (ne 2 (by omega)) (ne 5 (by omega)) (by subst h3; rfl)).mono ?_
      rintro e w' ⟨rfl, hb⟩
      exact ⟨_, rfl, Ws_nil _, Newer.refl _ _, hb⟩
    by_cases h4 : k = 4
    · have e1 : gT k p = numD (p.take 2) := by unfold gT; rw [if_pos (by omega)]
      have e2 : gG k p = numD ((p.drop 2).take 2) := by unfold gG; rw [if_pos h4]
      rw [e1, e2]
      refine (guess_4 k p w hp (ne 1 (by omega)) (ne 2 (by omega)) (ne 5 (by omega)) (ne 3 (by omega)) (by subst h4; rfl)).mono ?_
      rintro e w' ⟨rfl, hb⟩
      exact ⟨_, rfl, Ws_nil _, Newer.refl _ _, hb⟩
    · have e1 : gT k p = 0 := by unfold gT; rw [if_neg (by omega)]
      have e2 : gG k p = 0 := by unfold gG; rw [if_neg (by omega)]
      rw [e1, e2]
      refine (guess_0 k p w hp (ne 1 (by omega)) (ne 2 (by omega)) (ne 5 (by omega)) (ne 3 (by omega)) (ne 4 (by omega))).mono ?_
      rintro e w' ⟨rfl, hb⟩
      exact ⟨_, rfl, Ws_nil _, Newer.refl _ _, hb⟩
end Go.Proofs.Ytneepapppbchnaa
