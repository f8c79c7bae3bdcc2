/- The walk of the document's guess. -/
import Derived.Test.YtneepapppbchnaaOwn
import Derived.Test.YtneepapppbchnaaRG0
namespace Go.Proofs.Ytneepapppbchnaa
open Go.RowKit
set_option linter.unusedVariables false

/-- what the document's guess answers: a record; the right one where the payload is a record's -/
def GuessPost (k : Nat) (p : List UInt8) (w : World) (e : Ending) (w' : World) : Prop :=
  ∃ (t g : Nat) (v : Value) (ws : List WrL), e = .returned (.agg #[.int .i64 k, .int .i64 t, .int .i64 g, v]) ∧ Ws w' v ws ∧ Newer w (.slice none 0 0) v ∧ Below w.heap.size w w' ∧ SizedAll ws ∧ ws.length ≤ 255 ∧
    ∀ t' g' ws', recB k t' g' ws' = true → p = payL k (Int.toNat t') (Int.toNat g') ws' → t' = t ∧ g' = g ∧ ws' = ws
theorem rguess_start (w : World) (k : Nat) : ∃ W, W = (w.alloc (.cells #[.int .i64 0, .int .i64 0, .int .i64 0, .slice none 0 0] 32)).alloc (.cells #[.int .i64 k, .int .i64 0, .int .i64 0, .slice none 0 0] 32) ∧
    RB W w.heap.size 0 0 0 (.slice none 0 0) ∧ RB W (w.heap.size + 1) k 0 0 (.slice none 0 0) ∧ Below w.heap.size w W ∧ W.heap.size = w.heap.size + 2 := by
  refine ⟨_, rfl, ?_, ?_, ?_, by simp⟩
  · refine (RB_new w 0 0 0 (.slice none 0 0)).kept ?_
    rw [Below.heap_alloc _ _ _ (by simp)]
  · have := RB_new (w.alloc (.cells #[.int .i64 0, .int .i64 0, .int .i64 0, .slice none 0 0] 32)) k 0 0 (.slice none 0 0)
    simpa only [World.size_alloc] using this
  · exact (box_below w _).alloc (by simp) _
theorem rec6 {t g : Int} {ws : List WrL} (h : recB 6 t g ws = true) : t = 0 ∧ g = 0 ∧ ws = [] := by
  unfold recB at h
  rw [if_neg (by omega), if_neg (by omega), if_neg (by omega), if_neg (by omega), if_pos rfl] at h
  simp only [Bool.and_eq_true, decide_eq_true_eq] at h
  refine ⟨h.1, h.2.1, ?_⟩
  have := h.2.2
  unfold noneB at this
  exact List.eq_nil_of_length_eq_zero (of_decide_eq_true this)
set_option maxHeartbeats 400000 in
set_option maxRecDepth 100000 in
theorem rguess_6 (p : List UInt8) (w : World) :
    Calls Try.prog 44 #[.int .i64 6, .string (textOf p)] w fun e w' => GuessPost 6 p w e w' := by
  go_enter Try.func44, Try.ntmps44
  go_wp2_with fail
  refine bodyPost_ret (v := .agg #[.int .i64 6, .int .i64 0, .int .i64 0, .slice none 0 0]) (by simp [results, Try.results44, go_sem]) rfl ⟨0, 0, _, [], rfl, Ws_nil _, Newer.refl _ _, ?_, fun i hi => absurd hi (by simp), by simp, ?_⟩
  · exact (box_below w _).alloc (by simp) _
  · intro t' g' ws' hr _
    exact rec6 hr
theorem rec34 {k : Nat} (h1 : k ≠ 1) (h2 : k ≠ 2) (h5 : k ≠ 5) (h6 : k ≠ 6) {t g : Int} {ws : List WrL} (h : recB k t g ws = true) (p : List UInt8) (hp : p = payL k (Int.toNat t) (Int.toNat g) ws) :
    t = (twoD p 0 : Nat) ∧ g = ((if k = 4 then twoD p 2 else 0 : Nat) : Int) ∧ ws = [] := by
  obtain ⟨kn, tn, gn, e1, e2, e3, q1, q6, ht, hg, hw, hn⟩ := rec_nat h
  obtain rfl : k = kn := by omega
  have hz : ws = [] := List.eq_nil_of_length_eq_zero (hn (by omega))
  subst e2 e3
  rw [Int.toNat_natCast, Int.toNat_natCast] at hp
  unfold payL at hp
  rw [if_neg (by omega)] at hp
  by_cases h3 : k = 3
  · rw [if_pos h3] at hp
    refine ⟨?_, ?_, hz⟩
    · rw [hp, ← List.append_nil (numL tn 2), twoD_num _ (by omega)]
    · rw [if_neg (by omega)]
      unfold recB at h
      rw [if_neg (by omega), if_pos (by omega)] at h
      simp only [Bool.and_eq_true, decide_eq_true_eq] at h
      have := h.2.1
      omega
  · rw [if_neg h3, if_pos (by omega)] at hp
    refine ⟨?_, ?_, hz⟩
    · rw [hp, twoD_num _ (by omega)]
    · rw [if_pos (by omega), hp, ← List.append_nil (numL gn 2), twoD_num2 _ _ (by omega)]
set_option maxHeartbeats 400000 in
set_option maxRecDepth 100000 in
theorem rguess_4 (p : List UInt8) (w : World) (hp : p.length ≤ 255) :
    Calls Try.prog 44 #[.int .i64 4, .string (textOf p)] w fun e w' => GuessPost 4 p w e w' := by
  obtain ⟨W, HW, hA, hR, hBW, hsW⟩ := rguess_start w 4
  go_enter Try.func44, Try.ntmps44
  go_wp2_with fail
  rw [← show W = (w.alloc (.cells #[.int .i64 0, .int .i64 0, .int .i64 0, .slice none 0 0] 32)).alloc (.cells #[.int .i64 4, .int .i64 0, .int .i64 0, .slice none 0 0] 32) from HW]
  clear HW
  refine (two_any p 0 _ hp (by omega)).mono ?_
  rintro e w1 ⟨rfl, hb1⟩
  have hA1 := hA.kept (hb1.block _ hA.lt)
  have hR1 := hR.kept (hb1.block _ hR.lt)
  have hB1 : Below w.heap.size w w1 := hBW.trans (hb1.mono (by omega))
  obtain ⟨a0, a1, a2, a3⟩ := hR1.cells
  have f1 := hR1.frozen 1
  go_wp2_with fail
  refine (two_any p 2 _ hp (by omega)).mono ?_
  rintro e w2 ⟨rfl, hb2⟩
  have hR2 := (hR1.set1 (twoD p 0 : Nat)).kept (hb2.block _ (hR1.set1 (twoD p 0 : Nat)).lt)
  have hA2' := hA1.set_other (o := 1) (u := .int .i64 (twoD p 0 : Nat)) (show w.heap.size ≠ w.heap.size + 1 by omega)
  have hA2 := hA2'.kept (hb2.block _ hA2'.lt)
  have hs1 : W.heap.size ≤ w1.heap.size := hb1.size
  have hB2 : Below w.heap.size w w2 := (hB1.setCell (show w.heap.size ≤ w.heap.size + 1 by omega) _).trans (hb2.mono (by simp; omega))
  obtain ⟨b0, b1, b2, b3⟩ := hR2.cells
  have g2 := hR2.frozen 2
  obtain ⟨e0, e1, e2, e3⟩ := hA2.cells
  have k0 := hA2.frozen 0
  have k1 := hA2.frozen 1
  have k2 := hA2.frozen 2
  have k3 := hA2.frozen 3
  clear a0 a1 a2 a3 f1
  go_wp2_with fail
  refine bodyPost_ret (v := .agg #[.int .i64 4, .int .i64 (twoD p 0 : Nat), .int .i64 (twoD p 2 : Nat), .slice none 0 0]) (by simp [results, Try.results44, go_sem, e0, e1, e2, e3]) rfl ⟨twoD p 0, twoD p 2, _, [], rfl, Ws_nil _, Newer.refl _ _, end4 (hB2.setCell (show w.heap.size ≤ w.heap.size + 1 by omega) _) (Nat.le_refl _) _ _ _ _, fun i hi => absurd hi (by simp), by simp, ?_⟩
  intro t' g' ws' hr hpp
  exact rec34 (by omega) (by omega) (by omega) (by omega) hr p hpp
set_option maxHeartbeats 400000 in
set_option maxRecDepth 100000 in
theorem rguess_3 (k : Nat) (p : List UInt8) (w : World) (hp : p.length ≤ 255) (h1 : ((k : Int) == 1) = false) (h2 : ((k : Int) == 2) = false) (h4 : ((k : Int) == 4) = false) (h5 : ((k : Int) == 5) = false) (h6 : ((k : Int) == 6) = false) :
    Calls Try.prog 44 #[.int .i64 k, .string (textOf p)] w fun e w' => GuessPost k p w e w' := by
  have HK : Hid (k ≠ 1 ∧ k ≠ 2 ∧ k ≠ 4 ∧ k ≠ 5 ∧ k ≠ 6) := by
    rw [beq_eq_false_iff_ne] at h1 h2 h4 h5 h6
    show _ ∧ _; omega
  have n1 : ((k : Int) != 1) = true := by simp only [bne, h1]; rfl
  have n2 : ((k : Int) != 2) = true := by simp only [bne, h2]; rfl
  have n5 : ((k : Int) != 5) = true := by simp only [bne, h5]; rfl
  obtain ⟨W, HW, hA, hR, hBW, hsW⟩ := rguess_start w k
  go_enter Try.func44, Try.ntmps44
  go_wp2_with fail
  rw [← HW]
  clear HW
  refine (two_any p 0 _ hp (by omega)).mono ?_
  rintro e w1 ⟨rfl, hb1⟩
  have hA1 := hA.kept (hb1.block _ hA.lt)
  have hR1 := hR.kept (hb1.block _ hR.lt)
  have hB1 : Below w.heap.size w w1 := hBW.trans (hb1.mono (by omega))
  obtain ⟨a0, a1, a2, a3⟩ := hR1.cells
  have f1 := hR1.frozen 1
  obtain ⟨e0, e1, e2, e3⟩ := hA1.cells
  have k0 := hA1.frozen 0
  have k1 := hA1.frozen 1
  have k2 := hA1.frozen 2
  have k3 := hA1.frozen 3
  go_wp2_with fail
  refine bodyPost_ret (v := .agg #[.int .i64 k, .int .i64 (twoD p 0 : Nat), .int .i64 0, .slice none 0 0]) (by simp [results, Try.results44, go_sem, e0, e1, e2, e3]) rfl ⟨twoD p 0, 0, _, [], rfl, Ws_nil _, Newer.refl _ _, end4 (hB1.setCell (show w.heap.size ≤ w.heap.size + 1 by omega) _) (Nat.le_refl _) _ _ _ _, fun i hi => absurd hi (by simp), by simp, ?_⟩
  intro t' g' ws' hr hpp
  have hk := HK.out
  have := rec34 (by omega) (by omega) (by omega) (by omega) hr p hpp
  rw [if_neg (by omega)] at this
  exact this
theorem Ws_set4 {w2 : World} {a : Nat} {v : Value} {rows : List WrL} (hws : Ws w2 v rows) (hR : ∀ q, v.ownBlock = some q → q ≠ a) (y0 y1 y2 y3 : Value) :
    Ws ((((w2.setCell ⟨a, 0, none⟩ y0).setCell ⟨a, 1, none⟩ y1).setCell ⟨a, 2, none⟩ y2).setCell ⟨a, 3, none⟩ y3) v rows := by
  refine hws.kept fun q hq => ?_
  have h2 := hR q hq
  rw [Below.heap_setCell _ _ _ _ h2, Below.heap_setCell _ _ _ _ h2, Below.heap_setCell _ _ _ _ h2, Below.heap_setCell _ _ _ _ h2]
theorem cell2nd (w : World) (o : Obj) (a b c : Value) (t : TypeId) : ((w.alloc o).alloc (.cells #[a, b, c] t)).cell? ⟨w.heap.size + 1, 0, none⟩ = some a ∧ ((w.alloc o).alloc (.cells #[a, b, c] t)).cell? ⟨w.heap.size + 1, 1, none⟩ = some b ∧ ((w.alloc o).alloc (.cells #[a, b, c] t)).cell? ⟨w.heap.size + 1, 2, none⟩ = some c := by
  have h := heap_alloc_new (w.alloc o) (.cells #[a, b, c] t)
  simp only [World.size_alloc] at h
  simp only [World.cell?, h]
  exact ⟨rfl, rfl, rfl⟩
theorem RB_set4 {w : World} {a : Nat} {k t g : Int} {v : Value} (h : RB w a k t g v) (k' t' g' : Int) (v' : Value) (o : Obj) : RB (((((w.setCell ⟨a, 0, none⟩ (.int .i64 k')).setCell ⟨a, 1, none⟩ (.int .i64 t')).setCell ⟨a, 2, none⟩ (.int .i64 g')).setCell ⟨a, 3, none⟩ v').alloc o) a k' t' g' v' := by
  have h2 := (((h.set0 k').set1 t').set2 g').set3 v'
  exact h2.kept (Below.heap_alloc _ o a h2.lt)
theorem rguess_step {w wr w2 : World} {o1 o2 : Obj} {k tt : Int} {v u' : Value} {ws : List WrL} {r : WrL} (hRB : RB wr (w.heap.size + 1) k tt 0 v) (hAB : RB wr w.heap.size 0 0 0 (.slice none 0 0)) (hvx : ∀ x, v.ownBlock = some x → w.heap.size + 2 ≤ x) (hbel : Below w.heap.size w wr)
    (hgr : ((wr.alloc o1).alloc o2).grownBy w2 v.ownBlock) (hnw : Newer ((wr.alloc o1).alloc o2) v u') (hown : w2.ownsRow 0 65 3 u' (ws.length + 1) (cellsOf ws ++ [.string r.key, .bool r.dead, .string r.value])) :
    RB (w2.setCell ⟨w.heap.size + 1, 3, none⟩ u') (w.heap.size + 1) k tt 0 u' ∧ RB (w2.setCell ⟨w.heap.size + 1, 3, none⟩ u') w.heap.size 0 0 0 (.slice none 0 0) ∧ Ws (w2.setCell ⟨w.heap.size + 1, 3, none⟩ u') u' (ws ++ [r]) ∧ (∀ x, u'.ownBlock = some x → w.heap.size + 2 ≤ x) ∧ Below w.heap.size w (w2.setCell ⟨w.heap.size + 1, 3, none⟩ u') := by
  have hltR := hRB.lt
  have hold : ∀ g, g < wr.heap.size → some g ≠ v.ownBlock → w2.heap[g]? = wr.heap[g]? := by
    intro g hg hne
    rw [hgr.block g (by simp; omega) hne, Below.heap_alloc _ _ _ (by simp; omega), Below.heap_alloc _ _ _ hg]
  have hR2 := hRB.kept (hold _ hltR (fun e => by have := hvx _ e.symm; omega))
  have hA2 := hAB.kept (hold _ hAB.lt (fun e => by have := hvx _ e.symm; omega))
  have hux : ∀ x, u'.ownBlock = some x → w.heap.size + 2 ≤ x := by
    intro x hx
    rcases hnw with e | ⟨g, e, hg⟩
    · rw [e] at hx; exact hvx x hx
    · rw [e] at hx; injection hx with hx; simp at hg; omega
  refine ⟨hR2.set3 u', hA2.set_other (by omega), (Ws.snoc hown).kept fun x hx => ?_, hux, ?_⟩
  · have := hux x hx
    exact Below.heap_setCell _ _ _ _ (by show x ≠ w.heap.size + 1; omega)
  · have h1 : Below w.heap.size w ((wr.alloc o1).alloc o2) := (hbel.alloc (by omega) _).alloc (by simp; omega) _
    exact (h1.grown hgr (by simp; omega) (fun x hx => by have := hvx x hx; omega)).setCell (show w.heap.size ≤ w.heap.size + 1 by omega) _
theorem SizedAll_snoc {ws : List WrL} {r : WrL} (h : SizedAll ws) (hr : r.sized) : SizedAll (ws ++ [r]) := by
  intro i hi
  by_cases h1 : i < ws.length
  · rw [List.getElem_append_left h1]; exact h i h1
  · have : i = ws.length := by simp at hi; omega
    subst this
    simpa using hr
theorem rec_time {k : Nat} (hk : k = 1 ∨ k = 2 ∨ k = 5) {t g : Int} {ws : List WrL} (h : recB k t g ws = true) {p : List UInt8} (hp : p = payL k (Int.toNat t) (Int.toNat g) ws) : t = (twoD p 0 : Nat) ∧ g = ((0 : Nat) : Int) := by
  obtain ⟨kn, tn, gn, e1, e2, e3, q1, q6, ht, hg, hw, hn⟩ := rec_nat h
  obtain rfl : k = kn := by omega
  subst e2 e3
  rw [Int.toNat_natCast, Int.toNat_natCast] at hp
  unfold payL at hp
  rw [if_pos hk] at hp
  refine ⟨by rw [hp, twoD_num _ (by omega)], ?_⟩
  unfold recB at h
  by_cases h12 : ((k : Int) = 1 ∨ (k : Int) = 2)
  · rw [if_pos h12] at h
    simp only [Bool.and_eq_true, decide_eq_true_eq] at h
    exact h.2.1
  · rw [if_neg h12, if_neg (by omega), if_neg (by omega), if_pos (by omega)] at h
    simp only [Bool.and_eq_true, decide_eq_true_eq] at h
    exact h.2.1
set_option maxHeartbeats 1000000 in
set_option maxRecDepth 100000 in
theorem rguess_1 (k : Nat) (p : List UInt8) (w : World) (hp : p.length ≤ 255) (hk : ((k : Int) == 1) = true ∨ ((k : Int) == 1) = false ∧ (((k : Int) == 2) = true ∨ ((k : Int) == 2) = false ∧ ((k : Int) == 5) = true)) :
    Calls Try.prog 44 #[.int .i64 k, .string (textOf p)] w fun e w' => GuessPost k p w e w' := by
  have HK : Hid (k = 1 ∨ k = 2 ∨ k = 5) := by
    simp only [beq_iff_eq, beq_eq_false_iff_ne] at hk
    show _ ∨ _; omega
  have h6 : ((k : Int) == 6) = false := by rw [beq_eq_false_iff_ne]; have := HK.out; omega
  have h4 : ((k : Int) == 4) = false := by rw [beq_eq_false_iff_ne]; have := HK.out; omega
  obtain ⟨i0, hi, hz0, hz1, hz2⟩ := info_parts Try.info65
  obtain ⟨W, HW, hA, hR, hBW, hsW⟩ := rguess_start w k
  rcases hk with h1 | ⟨h1, h2 | ⟨h2, h5⟩⟩
  case' inl => have n1 : ((k : Int) != 1) = false := by simp only [bne, h1]; rfl
  case' inr.inl =>
    have n1 : ((k : Int) != 1) = true := by simp only [bne, h1]; rfl
    have n2 : ((k : Int) != 2) = false := by simp only [bne, h2]; rfl
  case' inr.inr =>
    have n1 : ((k : Int) != 1) = true := by simp only [bne, h1]; rfl
    have n2 : ((k : Int) != 2) = true := by simp only [bne, h2]; rfl
    have n5 : ((k : Int) != 5) = false := by simp only [bne, h5]; rfl
  all_goals
    go_enter Try.func44, Try.ntmps44
    go_wp2_with fail
    rw [← HW]
    clear HW
    refine (two_any p 0 _ hp (by omega)).mono ?_
    rintro e w1 ⟨rfl, hb1⟩
    have hA1 := hA.kept (hb1.block _ hA.lt)
    have hR1 := hR.kept (hb1.block _ hR.lt)
    have hB1 : Below w.heap.size w w1 := hBW.trans (hb1.mono (by omega))
    obtain ⟨a0, a1, a2, a3⟩ := hR1.cells
    have f1 := hR1.frozen 1
    have hA1' := hA1.set_other (o := 1) (u := .int .i64 (twoD p 0 : Nat)) (show w.heap.size ≠ w.heap.size + 1 by omega)
    have hR1' := hR1.set1 (twoD p 0 : Nat)
    have hs1 : w.heap.size + 2 ≤ (w1.setCell ⟨w.heap.size + 1, 1, none⟩ (.int .i64 (twoD p 0 : Nat))).heap.size := by have := hb1.size; simp; omega
    have hB1' : Below w.heap.size w (w1.setCell ⟨w.heap.size + 1, 1, none⟩ (.int .i64 (twoD p 0 : Nat))) := hB1.setCell (show w.heap.size ≤ w.heap.size + 1 by omega) _
    have HT : Hid (∀ t g ws', recB k t g ws' = true → p = payL k (Int.toNat t) (Int.toNat g) ws' → t = (twoD p 0 : Nat) ∧ g = ((0 : Nat) : Int)) := fun t g ws' hr hpp => rec_time HK.out hr hpp
    have HGS : Hid (Good k p 3 []) := Good_start HK.out p
    have hps : (textOf p).size = p.length := textOf_size p
    generalize twoD p 0 = tt at *
    clear hA hR hBW hsW hA1 hR1 hB1
    go_wp2_with fail
    go_loopw [6, 7, 8, 9] (fun n _ _ _ wr => ∃ (m : Nat) (v : Value) (ws : List WrL), n = .int .i64 m ∧ 3 ≤ m ∧ m ≤ 255 ∧ RB wr (w.heap.size + 1) k tt 0 v ∧ RB wr w.heap.size 0 0 0 (.slice none 0 0) ∧ Ws wr v ws ∧ (∀ x, v.ownBlock = some x → w.heap.size + 2 ≤ x) ∧ Below w.heap.size w wr ∧ Good k p m ws ∧ SizedAll ws ∧ ws.length + 3 ≤ m) (fun n _ _ _ _ => p.length - (intOf n).toNat)
    case atStart => exact ⟨3, _, [], rfl, by omega, by omega, hR1', hA1', Ws_nil _, fun x hx => (by cases hx), hB1', HGS.out, fun i hi => absurd hi (by simp), by simp⟩
    case round =>
      obtain ⟨m, v, ws, rfl, hm3, hm9, hRB, hAB, hws, hvx, hbel, hgood, hsa, hwl⟩ := hrel
      obtain ⟨b0, b1, b2, b3⟩ := hRB.cells
      obtain ⟨e0, e1, e2, e3⟩ := hAB.cells
      have k0 := hAB.frozen 0
      have k1 := hAB.frozen 1
      have k2 := hAB.frozen 2
      have k3 := hAB.frozen 3
      have g3 := hRB.frozen 3
      obtain ⟨va, vc, hv⟩ := hws.form
      subst hv
      have hltR := hRB.lt
      have hltA := hAB.lt
      have HN : Hid (Newer w (.slice none 0 0) (.slice va ws.length vc)) := by
        cases ho : (Value.slice va ws.length vc).ownBlock with
        | none => exact .inl ho
        | some x => exact .inr ⟨x, ho, by have := hvx x ho; omega⟩
      have HGD : Hid (Good k p m ws) := hgood
      clear hgood
      by_cases hlt : m + 1 < p.length
      · have HKEY : Hid (p.length ≤ m + 2 + (p.getD (m + 1) 0).toNat → ∀ t' g' ws', recB k t' g' ws' = true → p = payL k (Int.toNat t') (Int.toNat g') ws' → False) := fun hlong t' g' ws' hr hpp => Good_key HK.out HGD.out hlt hlong hr hpp
        have HVAL : Hid (p.length < m + 2 + (p.getD (m + 1) 0).toNat + 1 + (p.getD (m + 2 + (p.getD (m + 1) 0).toNat) 0).toNat → ∀ t' g' ws', recB k t' g' ws' = true → p = payL k (Int.toNat t') (Int.toNat g') ws' → False) := fun hlong t' g' ws' hr hpp => Good_val HK.out HGD.out hlt hlong hr hpp
        have HEQ : Hid (m + 2 + (p.getD (m + 1) 0).toNat < p.length → wrAt p m = ⟨(textOf p).extract (m + 2) (m + 2 + (p.getD (m + 1) 0).toNat), decide ((p.getD m 0).toNat = 1), (textOf p).extract (m + 2 + (p.getD (m + 1) 0).toNat + 1) (m + 2 + (p.getD (m + 1) 0).toNat + 1 + (p.getD (m + 2 + (p.getD (m + 1) 0).toNat) 0).toNat)⟩ ∧ rdR (p.drop m) = p.drop (m + 2 + (p.getD (m + 1) 0).toNat + 1 + (p.getD (m + 2 + (p.getD (m + 1) 0).toNat) 0).toNat)) := fun hlong => wrAt_eq p m _ _ hlt rfl hlong rfl
        have HNX : Hid (∀ m', m' ≤ p.length → p.drop m' = rdR (p.drop m) → Good k p m' (ws ++ [wrAt p m])) := fun m' h1 h2 => Good_next HK.out HGD.out hlt m' h1 h2
        have HW4 : Hid (∀ y0 y1 y2 y3, Ws ((((wr.setCell ⟨w.heap.size, 0, none⟩ y0).setCell ⟨w.heap.size, 1, none⟩ y1).setCell ⟨w.heap.size, 2, none⟩ y2).setCell ⟨w.heap.size, 3, none⟩ y3) (.slice va ws.length vc) ws) := fun y0 y1 y2 y3 => Ws_set4 hws (fun q hq => by have := hvx q hq; omega) y0 y1 y2 y3
        obtain ⟨s, z1, z2, hsp, hsl, q1, q2, c1, c2⟩ : ∃ (s : ByteArray) (z1 : m < s.size) (z2 : m + 1 < s.size), s = textOf p ∧ s.size = p.length ∧ s[m].toNat = (p.getD m 0).toNat ∧ s[m + 1].toNat = (p.getD (m + 1) 0).toNat ∧ (p.getD m 0).toNat < 256 ∧ (p.getD (m + 1) 0).toNat < 256 :=
          ⟨textOf p, by omega, by omega, rfl, hps, congrArg UInt8.toNat (text_get p m (by omega)), congrArg UInt8.toNat (text_get p (m + 1) (by omega)), (p.getD m 0).toNat_lt, (p.getD (m + 1) 0).toNat_lt⟩
        rw [← hsp] at HEQ ⊢
        by_cases hkk : m + 2 + (p.getD (m + 1) 0).toNat < p.length
        · obtain ⟨z3, q3, c3⟩ : ∃ (z3 : m + 2 + (p.getD (m + 1) 0).toNat < s.size), s[m + 2 + (p.getD (m + 1) 0).toNat].toNat = (p.getD (m + 2 + (p.getD (m + 1) 0).toNat) 0).toNat ∧ (p.getD (m + 2 + (p.getD (m + 1) 0).toNat) 0).toNat < 256 := by
            subst hsp
            exact ⟨by omega, congrArg UInt8.toNat (text_get p _ (by omega)), (p.getD _ 0).toNat_lt⟩
          have HEQ2 : Hid _ := HEQ.out hkk
          clear HEQ HKEY hsp hps
          generalize (p.getD (m + 2 + (p.getD (m + 1) 0).toNat) 0).toNat = c at *
          generalize (p.getD (m + 1) 0).toNat = b at *
          generalize (p.getD m 0).toNat = d at *
          have hsz : s.size ≤ 255 := by omega
          by_cases hvv : p.length < m + 2 + b + 1 + c
          · have HF : Hid (∀ t' g' ws', recB k t' g' ws' = true → p = payL k (Int.toNat t') (Int.toNat g') ws' → t' = tt ∧ g' = (0 : Nat) ∧ ws' = ws) := fun t' g' ws' hr hpp => (HVAL.out hvv t' g' ws' hr hpp).elim
            clear HVAL
            have hvv2 : s.size < m + 2 + b + 1 + c := by omega
            clear hvv hkk
            go_wp2_with fail
            have HX := fun o : Obj => (RB_set4 hAB k tt 0 (.slice va ws.length vc) o).cells
            exact bodyPost_ret (v := .agg #[.int .i64 k, .int .i64 (tt : Nat), .int .i64 0, .slice va ws.length vc]) (by simp [results, Try.results44, go_sem, (HX _).1, (HX _).2.1, (HX _).2.2.1, (HX _).2.2.2]) rfl ⟨tt, 0, _, ws, rfl, World.ownsRow.alloc (HW4.out _ _ _ _) _, HN.out, (end4 hbel (Nat.le_refl _) _ _ _ _).alloc (by simp; omega) _, hsa, by omega, HF.out⟩
          · clear HVAL
            have hvv2 : m + 2 + b + 1 + c ≤ s.size := by omega
            have hl1 : ws.length + 1 ≤ maxLen := by unfold maxLen; omega
            have hl2 : (ws.length + 1) * 40 ≤ 140737488355328 := by omega
            have hks : (s.extract (m + 2) (m + 2 + b)).size ≤ 255 := by simp; omega
            have hvs : (s.extract (m + 2 + b + 1) (m + 2 + b + 1 + c)).size ≤ 255 := by simp; omega
            have HKS : Hid ((s.extract (m + 2) (m + 2 + b)).size ≤ 255 ∧ (s.extract (m + 2 + b + 1) (m + 2 + b + 1 + c)).size ≤ 255) := ⟨hks, hvs⟩
            clear hvv hkk hks hvs HW4 HN
            go_wp2_with (at_builtin; go_must (refine wpList_append_src _ rfl _ _ 30 30 rfl 65 i0 _ 3 40 Try.underlying30 hi hz0 hz1 hz2 rfl (by decide) _ _ _ rfl (World.ownsRow.alloc (World.ownsRow.alloc hws _) _) _ 1 _ rfl (srcOne3 _ _ _ Try.underlying30 _ _ _ _ _ (cell2nd _ _ _ _ _ _).1 (cell2nd _ _ _ _ _ _).2.1 (cell2nd _ _ _ _ _ _).2.2) (fun _ => by decide) hl1 hl2 ?_; intro u' w2 hown hgr hnw hnn; obtain ⟨ua, uc, hu⟩ := own_form hown; subst hu; have hR2 := hRB.kept ((hgr.block (w.heap.size + 1) (by simp; omega) (fun e => by have := hvx _ e.symm; omega)).trans ((Below.heap_alloc _ _ _ (by simp; omega)).trans (Below.heap_alloc _ _ _ hltR))); have r3 := hR2.cells.2.2.2; have t3 := hR2.frozen 3))
            go_roundw
            case rel =>
              have hr : wrAt p m = ⟨s.extract (m + 2) (m + 2 + b), (d : Int) == 1, s.extract (m + 2 + b + 1) (m + 2 + b + 1 + c)⟩ := by rw [HEQ2.out.1, beq_one]
              have hsd : (wrAt p m).sized := by
                rw [hr]
                have h1 := HKS.out.1
                have h2 := HKS.out.2
                exact ⟨Nat.le_trans h1 (by decide), Nat.le_trans h2 (by decide)⟩
              obtain ⟨s1, s2, s3, s4, s5⟩ := rguess_step (r := ⟨s.extract (m + 2) (m + 2 + b), (d : Int) == 1, s.extract (m + 2 + b + 1) (m + 2 + b + 1 + c)⟩) hRB hAB hvx hbel hgr hnw hown
              refine ⟨m + 2 + b + 1 + c, _, ws ++ [wrAt p m], by go_num, by omega, by omega, s1, s2, by rw [hr]; exact s3, s4, s5, HNX.out _ (by omega) HEQ2.out.2.symm, SizedAll_snoc hsa hsd, by rw [List.length_append, List.length_singleton]; omega⟩
            case measure => simp [intOf]; omega
        · have HF : Hid (∀ t' g' ws', recB k t' g' ws' = true → p = payL k (Int.toNat t') (Int.toNat g') ws' → t' = tt ∧ g' = (0 : Nat) ∧ ws' = ws) := fun t' g' ws' hr hpp => (HKEY.out (by omega) t' g' ws' hr hpp).elim
          clear HKEY HVAL HEQ hsp hps
          generalize (p.getD (m + 1) 0).toNat = b at *
          generalize (p.getD m 0).toNat = d at *
          have hsz : s.size ≤ 255 := by omega
          have hkk2 : s.size ≤ m + 2 + b := by omega
          clear hkk
          go_wp2_with fail
          have HX := fun o : Obj => (RB_set4 hAB k tt 0 (.slice va ws.length vc) o).cells
          exact bodyPost_ret (v := .agg #[.int .i64 k, .int .i64 (tt : Nat), .int .i64 0, .slice va ws.length vc]) (by simp [results, Try.results44, go_sem, (HX _).1, (HX _).2.1, (HX _).2.2.1, (HX _).2.2.2]) rfl ⟨tt, 0, _, ws, rfl, World.ownsRow.alloc (HW4.out _ _ _ _) _, HN.out, (end4 hbel (Nat.le_refl _) _ _ _ _).alloc (by simp; omega) _, hsa, by omega, HF.out⟩
      · have hlt2 : ¬ m + 1 < (textOf p).size := by omega
        have hsz : (textOf p).size ≤ 255 := by omega
        have HD : Hid (∀ t' g' ws', recB k t' g' ws' = true → p = payL k (Int.toNat t') (Int.toNat g') ws' → t' = tt ∧ g' = (0 : Nat) ∧ ws' = ws) := by
          intro t' g' ws' hr hpp
          obtain ⟨q1, q2⟩ := HT.out t' g' ws' hr hpp
          exact ⟨q1, q2, (Good_done HK.out HGD.out hlt hr hpp).symm⟩
        have HW4 : Hid (∀ y0 y1 y2 y3, Ws ((((wr.setCell ⟨w.heap.size, 0, none⟩ y0).setCell ⟨w.heap.size, 1, none⟩ y1).setCell ⟨w.heap.size, 2, none⟩ y2).setCell ⟨w.heap.size, 3, none⟩ y3) (.slice va ws.length vc) ws) := fun y0 y1 y2 y3 => Ws_set4 hws (fun q hq => by have := hvx q hq; omega) y0 y1 y2 y3
        clear hps hlt
        generalize textOf p = s at *
        go_wp2_with fail
        exact bodyPost_ret (v := .agg #[.int .i64 k, .int .i64 (tt : Nat), .int .i64 0, .slice va ws.length vc]) (by simp [results, Try.results44, go_sem, e0, e1, e2, e3]) rfl ⟨tt, 0, _, ws, rfl, HW4.out _ _ _ _, HN.out, end4 hbel (Nat.le_refl _) _ _ _ _, hsa, by omega, HD.out⟩
theorem rguess_any (k : Nat) (p : List UInt8) (w : World) (hp : p.length ≤ 255) :
    Calls Try.prog 44 #[.int .i64 k, .string (textOf p)] w fun e w' => GuessPost k p w e w' := by
  have ne : ∀ n : Nat, k ≠ n → ((k : Int) == (n : Int)) = false := fun n h => beq_eq_false_iff_ne.2 (by omega)
  by_cases hk : k = 1 ∨ k = 2 ∨ k = 5
  · refine rguess_1 k p w hp ?_
    rcases hk with rfl | rfl | rfl
    · exact .inl rfl
    · exact .inr ⟨rfl, .inl rfl⟩
    · exact .inr ⟨rfl, .inr ⟨rfl, rfl⟩⟩
  by_cases h4 : k = 4
  · subst h4; exact rguess_4 p w hp
  by_cases h6 : k = 6
  · subst h6; exact rguess_6 p w
  exact rguess_3 k p w hp (ne 1 (by omega)) (ne 2 (by omega)) (ne 4 h4) (ne 5 (by omega)) (ne 6 h6)
end Go.Proofs.Ytneepapppbchnaa
