/- The walk of step. -/
import Derived.Test.YtneepapppbchnaaGreatDStep
import Derived.Deep.RegionHeld3
namespace Go.Proofs.YtneepapppbchnaaGreat
open Go.RowKit
set_option linter.unusedVariables false

theorem filed_any (b r T : Nat) (kd on a bb sh la rk rt rg : Int) (s t : List UInt8) (a1 a2 a3 : Option Addr) (n1 c1 n2 c2 n3 c3 : Nat) (fs : Nat → Fm) (P : Nat → Prop) (w : World) (h : Plate w b r fs T P) (hk : 11 ≤ kd ∧ kd ≤ 16) (hT : T < 4611686018427387904) (hs : s.length ≤ 140737488355328) (hb : bb < 9223372036854775808) :
    Calls Tryz.prog 43 #[.agg #[.pointer (some ⟨b, 0, none⟩), .pointer (some ⟨r, 0, none⟩)], .agg #[.int .i64 kd, .int .i64 on, .int .i64 a, .int .i64 bb, .string (textOf s), .string (textOf t), .int .i64 sh, .int .i64 la, .int .i64 rk, .int .i64 rt, .int .i64 rg, .slice a1 n1 c1, .slice a2 n2 c2, .slice a3 n3 c3]] w fun e w' => e = .returned (.bool true) ∧ Moved w w' b r (T + 1) P := by
  have h6 : kd = 11 ∨ kd = 12 ∨ kd = 13 ∨ kd = 14 ∨ kd = 15 ∨ kd = 16 := by omega
  rcases h6 with rfl | rfl | rfl | rfl | rfl | rfl
  · exact filed_append b r T on a bb sh la rk rt rg s t a1 a2 a3 n1 c1 n2 c2 n3 c3 fs P w h hT hs hb
  · exact filed_sync b r T on a bb sh la rk rt rg s t a1 a2 a3 n1 c1 n2 c2 n3 c3 fs P w h hT hs hb
  · exact filed_cut b r T on a bb sh la rk rt rg s t a1 a2 a3 n1 c1 n2 c2 n3 c3 fs P w h hT hs hb
  · exact filed_read b r T on a bb sh la rk rt rg s t a1 a2 a3 n1 c1 n2 c2 n3 c3 fs P w h hT hs hb
  · exact filed_trouble b r T on a bb sh la rk rt rg s t a1 a2 a3 n1 c1 n2 c2 n3 c3 fs P w h hT hs hb
  · exact filed_crash b r T on a bb sh la rk rt rg s t a1 a2 a3 n1 c1 n2 c2 n3 c3 fs P w h hT hs hb
theorem Stepped.from {w w1 w2 : World} {wb T B n : Nat} (h : Only (fun _ => False) w w1) (hB : B ≤ w.heap.size) (hs : Stepped w1 w2 wb T B n) : Stepped w w2 wb T B n :=
  ⟨hs.1, (h.below hB (fun _ q => q.elim)).trans hs.2⟩
set_option maxRecDepth 100000 in
theorem step_disk (wb T B : Nat) (v : Value) (pls : List (Nat × Nat)) (P : Nat → Nat → Prop) (on a bb sh la rk rt rg : Int) (s t : List UInt8) (a1 a2 a3 : Option Addr) (n1 c1 n2 c2 n3 c3 : Nat) (w : World) (h : WA w wb v pls T B P) (hl : pls.length ≤ 4000000000000) :
    Calls Tryz.prog 19 #[.pointer (some ⟨wb, 0, none⟩), .agg #[.int .i64 10, .int .i64 on, .int .i64 a, .int .i64 bb, .string (textOf s), .string (textOf t), .int .i64 sh, .int .i64 la, .int .i64 rk, .int .i64 rt, .int .i64 rg, .slice a1 n1 c1, .slice a2 n2 c2, .slice a3 n3 c3]] w fun e w' => e = .returned (.bool true) ∧ Stepped w w' wb (T + 1) B (pls.length + 1) := by
  have HW : Hid (∀ o, WA (w.alloc o) wb v pls (T + 1) B P) := fun o => (h.kept ((Only.refl _ w).alloc o)).later
  have hB : B ≤ w.heap.size := Nat.le_trans h.bb (Nat.le_of_lt h.wlt)
  clear h
  go_enter Tryz.func19, Tryz.ntmps19
  go_wp2_with fail
  refine (disk_any wb (T + 1) B v pls P _ (HW.out _) hl).mono ?_
  rintro e w2 ⟨rfl, hs⟩
  have HS := hide (Stepped.from ((Only.refl _ w).alloc _) hB hs)
  clear hs
  go_wp2_with fail
  go_ret
  exact ⟨rfl, HS.out⟩
set_option maxRecDepth 100000 in
theorem step_none (wb T B : Nat) (P : Nat → Nat → Prop) (v : Value) (kd : Int) (on a bb sh la rk rt rg : Int) (s t : List UInt8) (a1 a2 a3 : Option Addr) (n1 c1 n2 c2 n3 c3 : Nat) (w : World) (h : WA w wb v [] T B P) (hk : 11 ≤ kd ∧ kd ≤ 16) :
    Calls Tryz.prog 19 #[.pointer (some ⟨wb, 0, none⟩), .agg #[.int .i64 kd, .int .i64 on, .int .i64 a, .int .i64 bb, .string (textOf s), .string (textOf t), .int .i64 sh, .int .i64 la, .int .i64 rk, .int .i64 rt, .int .i64 rg, .slice a1 n1 c1, .slice a2 n2 c2, .slice a3 n3 c3]] w fun e w' => e = .returned (.bool true) ∧ Stepped w w' wb (T + 1) B 0 := by
  have HW : Hid (∀ o, Stepped w (w.alloc o) wb (T + 1) B 0) := fun o => ⟨⟨v, [], P, (h.kept ((Only.refl _ w).alloc o)).later, rfl⟩, ((Only.refl (fun _ => False) w).alloc o).below (Nat.le_trans h.bb (Nat.le_of_lt h.wlt)) (fun _ q => q.elim)⟩
  obtain ⟨va, vc, hva⟩ := own_form h.row
  subst hva
  have c4 := h.c4
  have hwl := h.wlt
  have k1 : ¬ kd < 10 := by omega
  have k2 : kd ≠ 10 := by omega
  have k3 : kd < 20 := by omega
  have k4 : kd ≠ 20 := by omega
  clear h
  go_enter Tryz.func19, Tryz.ntmps19
  go_wp2_with fail
  go_ret
  exact ⟨rfl, HW.out _⟩
set_option maxRecDepth 100000 in
set_option maxHeartbeats 2000000 in
theorem step_file (wb T B : Nat) (P : Nat → Nat → Prop) (v : Value) (pls : List (Nat × Nat)) (kd : Int) (on a bb sh la rk rt rg : Int) (s t : List UInt8) (a1 a2 a3 : Option Addr) (n1 c1 n2 c2 n3 c3 : Nat) (w : World) (h : WA w wb v pls T B P) (h0 : 0 < pls.length) (hl : pls.length ≤ 4000000000000) (hk : 11 ≤ kd ∧ kd ≤ 16) (hT : T < 4611686018427387904) (hs : s.length ≤ 140737488355328) (hb : bb < 9223372036854775808) (hon : -9223372036854775808 ≤ on ∧ on < 9223372036854775808) :
    Calls Tryz.prog 19 #[.pointer (some ⟨wb, 0, none⟩), .agg #[.int .i64 kd, .int .i64 on, .int .i64 a, .int .i64 bb, .string (textOf s), .string (textOf t), .int .i64 sh, .int .i64 la, .int .i64 rk, .int .i64 rt, .int .i64 rg, .slice a1 n1 c1, .slice a2 n2 c2, .slice a3 n3 c3]] w fun e w' => e = .returned (.bool true) ∧ Stepped w w' wb (T + 1) B pls.length := by
  have hB : B ≤ w.heap.size := Nat.le_trans h.bb (Nat.le_of_lt h.wlt)
  obtain ⟨k, hkk⟩ : ∃ k, k = pickV on pls.length := ⟨_, rfl⟩
  have hkl : k < pls.length := by rw [hkk]; exact pickV_lt on _ h0
  have hpick : ∀ wx, Calls Tryz.prog 44 #[.int .i64 on, .int .i64 (pls.length : Int)] wx fun e w' => e = .returned (.int .i64 (k : Int)) ∧ w' = wx := fun wx => by
    rw [hkk]; exact lpick_any on pls.length wx hon h0 (by omega)
  have HPK := hide hpick
  obtain ⟨fs, hpl⟩ := h.pl k hkl
  have H := hide h
  have c4 := h.c4
  have hwl := h.wlt
  obtain ⟨g, cap, hvg, hglt, hat⟩ : ∃ g cap, v = .slice (some ⟨g, 0, none⟩) pls.length cap ∧ g < w.heap.size ∧ (w.cell? ⟨g, k * 2, none⟩ = some (.pointer (some ⟨pls[k].1, 0, none⟩)) ∧ w.cell? ⟨g, k * 2 + 1, none⟩ = some (.pointer (some ⟨pls[k].2, 0, none⟩))) := by
    have hr := h.row
    rcases hr.2 with ⟨_, e⟩ | ⟨g, cap, cur, e, _⟩
    · omega
    · refine ⟨g, cap, e, (World.ownsRow.lt hr g (by rw [e]; rfl)).2, ?_⟩
      have hc := World.ownsRow.cells hr (g := g) (by rw [e]; rfl)
      obtain ⟨q0, q1⟩ := plCells_get pls k hkl
      have r0 := hc _ _ q0
      have r1 := hc _ _ q1
      simp only [Addr.add_lit, Nat.zero_add] at r0 r1
      exact ⟨r0, r1⟩
  obtain ⟨r0, r1⟩ := hat
  rw [hvg] at c4
  have HPL : Hid (∀ wx, Only (fun _ => False) w wx → Calls Tryz.prog 43 #[.agg #[.pointer (some ⟨pls[k].1, 0, none⟩), .pointer (some ⟨pls[k].2, 0, none⟩)], .agg #[.int .i64 kd, .int .i64 on, .int .i64 a, .int .i64 bb, .string (textOf s), .string (textOf t), .int .i64 sh, .int .i64 la, .int .i64 rk, .int .i64 rt, .int .i64 rg, .slice a1 n1 c1, .slice a2 n2 c2, .slice a3 n3 c3]] wx fun e w' => e = .returned (.bool true) ∧ Stepped w w' wb (T + 1) B pls.length ∧ ∀ x, (x = wb ∨ x = g ∨ x = w.heap.size) → x < wx.heap.size → w'.heap[x]? = wx.heap[x]?) := by
    intro wx hx
    refine (filed_any _ _ T kd on a bb sh la rk rt rg s t a1 a2 a3 n1 c1 n2 c2 n3 c3 fs (P k) wx (hpl.kept hx (fun _ _ q => q)) hk hT hs hb).mono ?_
    rintro e w' ⟨rfl, hm⟩
    obtain ⟨⟨P', q1⟩, q2⟩ := (h.kept hx).moved hkl hm
    refine ⟨rfl, Stepped.from hx hB ⟨⟨v, pls, P', q1, rfl⟩, q2⟩, fun x hx3 hx4 => ?_⟩
    obtain ⟨_, _, _, ho, _⟩ := hm
    refine ho.block x hx4 (fun q => ?_)
    have hnb := h.nb k hkl x q
    rcases hx3 with e | e | e
    · exact hnb.1 e
    · exact hnb.2.1 (by rw [hvg, e]; rfl)
    · have := hpl.footlt q
      omega
  have hk1 : (k : Int) < (pls.length : Int) := by omega
  have hk0 : (0 : Int) ≤ (k : Int) := by omega
  have k1 : ¬ kd < 10 := by omega
  have k2 : kd ≠ 10 := by omega
  have k3 : kd < 20 := by omega
  have k5 : (0 : Int) < (pls.length : Int) := by omega
  generalize pls[k].1 = pb at *
  generalize pls[k].2 = pr at *
  clear h hpl hpick hkk H hvg
  go_enter Tryz.func19, Tryz.ntmps19
  go_wp2_with fail
  obtain ⟨w1, hw1⟩ : ∃ w1, w1 = w.alloc (.cells #[.int .i64 kd, .int .i64 on, .int .i64 a, .int .i64 bb, .string (textOf s), .string (textOf t), .int .i64 sh, .int .i64 la, .int .i64 rk, .int .i64 rt, .int .i64 rg, .slice a1 n1 c1, .slice a2 n2 c2, .slice a3 n3 c3] 63) := ⟨_, rfl⟩
  have ho1 : Only (fun _ => False) w w1 := by rw [hw1]; exact (Only.refl _ w).alloc _
  have hbx := heap_alloc_new w (.cells #[.int .i64 kd, .int .i64 on, .int .i64 a, .int .i64 bb, .string (textOf s), .string (textOf t), .int .i64 sh, .int .i64 la, .int .i64 rk, .int .i64 rt, .int .i64 rg, .slice a1 n1 c1, .slice a2 n2 c2, .slice a3 n3 c3] 63)
  rw [← hw1] at hbx ⊢
  have y0 := box_cell hbx 0 _ rfl
  have y1 := box_cell hbx 1 _ rfl
  have y2 := box_cell hbx 2 _ rfl
  have y3 := box_cell hbx 3 _ rfl
  have y4 := box_cell hbx 4 _ rfl
  have y5 := box_cell hbx 5 _ rfl
  have y6 := box_cell hbx 6 _ rfl
  have y7 := box_cell hbx 7 _ rfl
  have y8 := box_cell hbx 8 _ rfl
  have y9 := box_cell hbx 9 _ rfl
  have y10 := box_cell hbx 10 _ rfl
  have y11 := box_cell hbx 11 _ rfl
  have y12 := box_cell hbx 12 _ rfl
  have y13 := box_cell hbx 13 _ rfl
  replace c4 := (World.cell?_of_block (ho1.block wb hwl (fun q => q))).trans c4
  replace r0 := (World.cell?_of_block (ho1.block g hglt (fun q => q))).trans r0
  replace r1 := (World.cell?_of_block (ho1.block g hglt (fun q => q))).trans r1
  have HO1 := hide ho1
  generalize textOf s = sb at *
  generalize textOf t = tb at *
  have hobl : w.heap.size < w1.heap.size := World.block_lt_of_cell? w1 _ y0
  have hwbl : wb < w1.heap.size := World.block_lt_of_cell? w1 _ c4
  have hgl : g < w1.heap.size := World.block_lt_of_cell? w1 _ r0
  generalize w.heap.size = ob at *
  have HS : Hid (∀ w' : World, (∀ x, (x = wb ∨ x = g ∨ x = ob) → w'.heap[x]? = w1.heap[x]?) → w'.cell? ⟨ob, 0, none⟩ = some (.int .i64 kd) ∧ w'.cell? ⟨ob, 1, none⟩ = some (.int .i64 on) ∧ w'.cell? ⟨ob, 2, none⟩ = some (.int .i64 a) ∧ w'.cell? ⟨ob, 3, none⟩ = some (.int .i64 bb) ∧ w'.cell? ⟨ob, 4, none⟩ = some (.string sb) ∧ w'.cell? ⟨ob, 5, none⟩ = some (.string tb) ∧ w'.cell? ⟨ob, 6, none⟩ = some (.int .i64 sh) ∧ w'.cell? ⟨ob, 7, none⟩ = some (.int .i64 la) ∧ w'.cell? ⟨ob, 8, none⟩ = some (.int .i64 rk) ∧ w'.cell? ⟨ob, 9, none⟩ = some (.int .i64 rt) ∧ w'.cell? ⟨ob, 10, none⟩ = some (.int .i64 rg) ∧ w'.cell? ⟨ob, 11, none⟩ = some (.slice a1 n1 c1) ∧ w'.cell? ⟨ob, 12, none⟩ = some (.slice a2 n2 c2) ∧ w'.cell? ⟨ob, 13, none⟩ = some (.slice a3 n3 c3) ∧ w'.cell? ⟨wb, 4, none⟩ = some (.slice (some ⟨g, 0, none⟩) pls.length cap) ∧ w'.cell? ⟨g, k * 2, none⟩ = some (.pointer (some ⟨pb, 0, none⟩)) ∧ w'.cell? ⟨g, k * 2 + 1, none⟩ = some (.pointer (some ⟨pr, 0, none⟩))) := by
    intro w' hw
    have e1 : ∀ o, w'.cell? ⟨ob, o, none⟩ = w1.cell? ⟨ob, o, none⟩ := fun o => World.cell?_of_block (hw ob (.inr (.inr rfl)))
    have e2 : ∀ o, w'.cell? ⟨wb, o, none⟩ = w1.cell? ⟨wb, o, none⟩ := fun o => World.cell?_of_block (hw wb (.inl rfl))
    have e3 : ∀ o, w'.cell? ⟨g, o, none⟩ = w1.cell? ⟨g, o, none⟩ := fun o => World.cell?_of_block (hw g (.inr (.inl rfl)))
    simp only [e1, e2, e3]
    exact ⟨y0, y1, y2, y3, y4, y5, y6, y7, y8, y9, y10, y11, y12, y13, c4, r0, r1⟩
  have HLT : Hid (∀ x, (x = wb ∨ x = g ∨ x = ob) → x < w1.heap.size) := by
    rintro x (e | e | e) <;> omega
  clear ho1 hbx hw1 hwl hglt hl hk hs hb hon hT k1 k2 k3 k5 h0 y0 y1 y2 y3 y4 y5 y6 y7 y8 y9 y10 y11 y12 y13 c4 r0 r1
  go_region_held3 (fun w' => w'.cell? ⟨ob, 0, none⟩ = some (.int .i64 kd) ∧ w'.cell? ⟨ob, 1, none⟩ = some (.int .i64 on) ∧ w'.cell? ⟨ob, 2, none⟩ = some (.int .i64 a) ∧ w'.cell? ⟨ob, 3, none⟩ = some (.int .i64 bb) ∧ w'.cell? ⟨ob, 4, none⟩ = some (.string sb) ∧ w'.cell? ⟨ob, 5, none⟩ = some (.string tb) ∧ w'.cell? ⟨ob, 6, none⟩ = some (.int .i64 sh) ∧ w'.cell? ⟨ob, 7, none⟩ = some (.int .i64 la) ∧ w'.cell? ⟨ob, 8, none⟩ = some (.int .i64 rk) ∧ w'.cell? ⟨ob, 9, none⟩ = some (.int .i64 rt) ∧ w'.cell? ⟨ob, 10, none⟩ = some (.int .i64 rg) ∧ w'.cell? ⟨ob, 11, none⟩ = some (.slice a1 n1 c1) ∧ w'.cell? ⟨ob, 12, none⟩ = some (.slice a2 n2 c2) ∧ w'.cell? ⟨ob, 13, none⟩ = some (.slice a3 n3 c3) ∧ w'.cell? ⟨wb, 4, none⟩ = some (.slice (some ⟨g, 0, none⟩) pls.length cap) ∧ w'.cell? ⟨g, k * 2, none⟩ = some (.pointer (some ⟨pb, 0, none⟩)) ∧ w'.cell? ⟨g, k * 2 + 1, none⟩ = some (.pointer (some ⟨pr, 0, none⟩))) (first | exact HS.out _ (fun _ _ => rfl) | exact HS.out _ hkp) (first
    | (go_at_call 44; go_must (refine (HPK.out _).mono ?_; rintro e wp ⟨rfl, rfl⟩))
    | (go_at_call 43; go_must (refine (HPL.out _ HO1.out.drew).mono ?_; rintro e wp ⟨rfl, hst, hkq⟩; have HST := hide hst; have hkp : ∀ x, (x = wb ∨ x = g ∨ x = ob) → wp.heap[x]? = w1.heap[x]? := fun x hx => hkq x hx (HLT.out x hx); clear hst hkq)))
  all_goals
    go_wp2_with fail
    go_ret
    exact ⟨rfl, HST.out⟩
end Go.Proofs.YtneepapppbchnaaGreat
