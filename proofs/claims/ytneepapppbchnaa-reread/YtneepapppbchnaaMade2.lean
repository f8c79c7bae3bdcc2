/- The walk of made: the second half. -/
import Derived.Test.YtneepapppbchnaaMade
namespace Go.Proofs.Ytneepapppbchnaa
open Go.RowKit
set_option linter.unusedVariables false

set_option maxHeartbeats 2000000 in
set_option maxRecDepth 100000 in
theorem made_yes_3 (raw : Int) (i nv b off cap : Nat) (s : ByteArray) (w : World) (hr : -9223372036854775808 ≤ raw ∧ raw ≤ 9223372036854775807) (hi : i < nv) (hi8 : i ≤ 100) (hn : nv ≤ 140737488355328) (hc : w.cell? ⟨b, off + i, none⟩ = some (.string s)) (hs : s.size ≤ maxLen) (hk : 1 + pickOf raw 6 = 3) :
    Calls Try.prog 15 #[.int .i64 raw, .int .i64 i, .slice (some ⟨b, off, none⟩) nv cap] w fun e w' => MadePost w e w' := by
  obtain ⟨i0, hi0, hz0, hz1, hz2⟩ := info_parts Try.info65
  have p1 := pickOf_nonneg raw 6 (by omega)
  have p2 := pickOf_lt raw 6 (by omega)
  have t1 := pickOf_nonneg (raw.tdiv 6) 65535 (by omega)
  have t2 := pickOf_lt (raw.tdiv 6) 65535 (by omega)
  obtain ⟨tn, htn, HTN⟩ : ∃ tn : Nat, (1 ≤ tn ∧ tn ≤ 65535) ∧ Hid (1 + pickOf (raw.tdiv 6) 65535 = (tn : Int)) := ⟨(1 + pickOf (raw.tdiv 6) 65535).toNat, by omega, by show _ = _; omega⟩
  have hr6 := tdiv_range hr 6 (by omega)
  have hr7 := tdiv_range hr 7 (by omega)
  have hr11 := tdiv_range hr 11 (by omega)
  have hbw := World.block_lt_of_cell? w _ hc
  have HK : Hid (1 + pickOf raw 6 = 3) := hk
  clear hk
  go_enter Try.func15, Try.ntmps15
  go_wp2_with fail
  refine (pick_any raw 6 _ hr (by omega) (by omega)).mono ?_
  rintro e w' ⟨rfl, rfl⟩
  go_wp2_with fail
  rw [HK.out]
  refine (pick_any (raw.tdiv 6) 65535 _ hr6 (by omega) (by omega)).mono ?_
  rintro e w' ⟨rfl, rfl⟩
  go_wp2_with fail
  rw [HTN.out]
  refine (upTo_any s 16 _ hs (by omega)).mono ?_
  rintro e w' ⟨rfl, rfl⟩
  have hvv : (firstOf s 16).size ≤ 16 := by rw [firstOf_size]; omega
  generalize firstOf s 16 = vv at *
  go_wp2_with fail
  exact bodyPost_ret (v := .agg #[.int .i64 3, .int .i64 (tn : Nat), .int .i64 0, .slice none 0 0]) (by simp [results, Try.results15, go_sem]) rfl ⟨3, tn, 0, _, [], rfl, rec_three tn htn, Ws_nil _, Newer.refl _ _, (box_below w _).alloc (by simp) _⟩
set_option maxHeartbeats 2000000 in
set_option maxRecDepth 100000 in
theorem made_yes_4 (raw : Int) (i nv b off cap : Nat) (s : ByteArray) (w : World) (hr : -9223372036854775808 ≤ raw ∧ raw ≤ 9223372036854775807) (hi : i < nv) (hi8 : i ≤ 100) (hn : nv ≤ 140737488355328) (hc : w.cell? ⟨b, off + i, none⟩ = some (.string s)) (hs : s.size ≤ maxLen) (hk : 1 + pickOf raw 6 = 4) :
    Calls Try.prog 15 #[.int .i64 raw, .int .i64 i, .slice (some ⟨b, off, none⟩) nv cap] w fun e w' => MadePost w e w' := by
  obtain ⟨i0, hi0, hz0, hz1, hz2⟩ := info_parts Try.info65
  have p1 := pickOf_nonneg raw 6 (by omega)
  have p2 := pickOf_lt raw 6 (by omega)
  have t1 := pickOf_nonneg (raw.tdiv 6) 65535 (by omega)
  have t2 := pickOf_lt (raw.tdiv 6) 65535 (by omega)
  obtain ⟨tn, htn, HTN⟩ : ∃ tn : Nat, (1 ≤ tn ∧ tn ≤ 65535) ∧ Hid (1 + pickOf (raw.tdiv 6) 65535 = (tn : Int)) := ⟨(1 + pickOf (raw.tdiv 6) 65535).toNat, by omega, by show _ = _; omega⟩
  have hr6 := tdiv_range hr 6 (by omega)
  have hr7 := tdiv_range hr 7 (by omega)
  have hr11 := tdiv_range hr 11 (by omega)
  have hbw := World.block_lt_of_cell? w _ hc
  have HK : Hid (1 + pickOf raw 6 = 4) := hk
  clear hk
  go_enter Try.func15, Try.ntmps15
  go_wp2_with fail
  refine (pick_any raw 6 _ hr (by omega) (by omega)).mono ?_
  rintro e w' ⟨rfl, rfl⟩
  go_wp2_with fail
  rw [HK.out]
  refine (pick_any (raw.tdiv 6) 65535 _ hr6 (by omega) (by omega)).mono ?_
  rintro e w' ⟨rfl, rfl⟩
  go_wp2_with fail
  rw [HTN.out]
  refine (upTo_any s 16 _ hs (by omega)).mono ?_
  rintro e w' ⟨rfl, rfl⟩
  have hvv : (firstOf s 16).size ≤ 16 := by rw [firstOf_size]; omega
  generalize firstOf s 16 = vv at *
  go_wp2_with fail
  have g1 := pickOf_nonneg (raw.tdiv 11) 65535 (by omega)
  have g2 := pickOf_lt (raw.tdiv 11) 65535 (by omega)
  obtain ⟨gn, hgn, HGN⟩ : ∃ gn : Nat, (1 ≤ gn ∧ gn ≤ 65535) ∧ Hid (1 + pickOf (raw.tdiv 11) 65535 = (gn : Int)) := ⟨(1 + pickOf (raw.tdiv 11) 65535).toNat, by omega, by show _ = _; omega⟩
  refine (pick_any (raw.tdiv 11) 65535 _ hr11 (by omega) (by omega)).mono ?_
  rintro e w' ⟨rfl, rfl⟩
  go_wp2_with fail
  rw [HGN.out]
  exact bodyPost_ret (v := .agg #[.int .i64 4, .int .i64 (tn : Nat), .int .i64 (gn : Nat), .slice none 0 0]) (by simp [results, Try.results15, go_sem]) rfl ⟨4, tn, gn, _, [], rfl, rec_four tn gn htn hgn, Ws_nil _, Newer.refl _ _, (box_below w _).alloc (by simp) _⟩
set_option maxHeartbeats 2000000 in
set_option maxRecDepth 100000 in
theorem made_yes_6 (raw : Int) (i nv b off cap : Nat) (s : ByteArray) (w : World) (hr : -9223372036854775808 ≤ raw ∧ raw ≤ 9223372036854775807) (hi : i < nv) (hi8 : i ≤ 100) (hn : nv ≤ 140737488355328) (hc : w.cell? ⟨b, off + i, none⟩ = some (.string s)) (hs : s.size ≤ maxLen) (hk : 1 + pickOf raw 6 = 6) :
    Calls Try.prog 15 #[.int .i64 raw, .int .i64 i, .slice (some ⟨b, off, none⟩) nv cap] w fun e w' => MadePost w e w' := by
  obtain ⟨i0, hi0, hz0, hz1, hz2⟩ := info_parts Try.info65
  have p1 := pickOf_nonneg raw 6 (by omega)
  have p2 := pickOf_lt raw 6 (by omega)
  have t1 := pickOf_nonneg (raw.tdiv 6) 65535 (by omega)
  have t2 := pickOf_lt (raw.tdiv 6) 65535 (by omega)
  obtain ⟨tn, htn, HTN⟩ : ∃ tn : Nat, (1 ≤ tn ∧ tn ≤ 65535) ∧ Hid (1 + pickOf (raw.tdiv 6) 65535 = (tn : Int)) := ⟨(1 + pickOf (raw.tdiv 6) 65535).toNat, by omega, by show _ = _; omega⟩
  have hr6 := tdiv_range hr 6 (by omega)
  have hr7 := tdiv_range hr 7 (by omega)
  have hr11 := tdiv_range hr 11 (by omega)
  have hbw := World.block_lt_of_cell? w _ hc
  have HK : Hid (1 + pickOf raw 6 = 6) := hk
  clear hk
  go_enter Try.func15, Try.ntmps15
  go_wp2_with fail
  refine (pick_any raw 6 _ hr (by omega) (by omega)).mono ?_
  rintro e w' ⟨rfl, rfl⟩
  go_wp2_with fail
  rw [HK.out]
  refine (pick_any (raw.tdiv 6) 65535 _ hr6 (by omega) (by omega)).mono ?_
  rintro e w' ⟨rfl, rfl⟩
  go_wp2_with fail
  rw [HTN.out]
  refine (upTo_any s 16 _ hs (by omega)).mono ?_
  rintro e w' ⟨rfl, rfl⟩
  have hvv : (firstOf s 16).size ≤ 16 := by rw [firstOf_size]; omega
  generalize firstOf s 16 = vv at *
  go_wp2_with fail
  exact bodyPost_ret (v := .agg #[.int .i64 6, .int .i64 0, .int .i64 0, .slice none 0 0]) (by simp [results, Try.results15, go_sem]) rfl ⟨6, 0, 0, _, [], rfl, rec_six, Ws_nil _, Newer.refl _ _, (box_below w _).alloc (by simp) _⟩
set_option maxHeartbeats 2000000 in
set_option maxRecDepth 100000 in
theorem made_yes_5 (raw : Int) (i nv b off cap : Nat) (s : ByteArray) (w : World) (hr : -9223372036854775808 ≤ raw ∧ raw ≤ 9223372036854775807) (hi : i < nv) (hi8 : i ≤ 100) (hn : nv ≤ 140737488355328) (hc : w.cell? ⟨b, off + i, none⟩ = some (.string s)) (hs : s.size ≤ maxLen) (hk : 1 + pickOf raw 6 = 5) :
    Calls Try.prog 15 #[.int .i64 raw, .int .i64 i, .slice (some ⟨b, off, none⟩) nv cap] w fun e w' => MadePost w e w' := by
  obtain ⟨i0, hi0, hz0, hz1, hz2⟩ := info_parts Try.info65
  have p1 := pickOf_nonneg raw 6 (by omega)
  have p2 := pickOf_lt raw 6 (by omega)
  have t1 := pickOf_nonneg (raw.tdiv 6) 65535 (by omega)
  have t2 := pickOf_lt (raw.tdiv 6) 65535 (by omega)
  obtain ⟨tn, htn, HTN⟩ : ∃ tn : Nat, (1 ≤ tn ∧ tn ≤ 65535) ∧ Hid (1 + pickOf (raw.tdiv 6) 65535 = (tn : Int)) := ⟨(1 + pickOf (raw.tdiv 6) 65535).toNat, by omega, by show _ = _; omega⟩
  have hr6 := tdiv_range hr 6 (by omega)
  have hr7 := tdiv_range hr 7 (by omega)
  have hr11 := tdiv_range hr 11 (by omega)
  have hbw := World.block_lt_of_cell? w _ hc
  have HK : Hid (1 + pickOf raw 6 = 5) := hk
  clear hk
  go_enter Try.func15, Try.ntmps15
  go_wp2_with fail
  refine (pick_any raw 6 _ hr (by omega) (by omega)).mono ?_
  rintro e w' ⟨rfl, rfl⟩
  go_wp2_with fail
  rw [HK.out]
  refine (pick_any (raw.tdiv 6) 65535 _ hr6 (by omega) (by omega)).mono ?_
  rintro e w' ⟨rfl, rfl⟩
  go_wp2_with fail
  rw [HTN.out]
  refine (upTo_any s 16 _ hs (by omega)).mono ?_
  rintro e w' ⟨rfl, rfl⟩
  have hvv : (firstOf s 16).size ≤ 16 := by rw [firstOf_size]; omega
  generalize firstOf s 16 = vv at *
  go_wp2_with fail
  obtain ⟨W, HW, hA, hR, hBW, hsW⟩ := made_start w 5 tn
  rw [← show W = (w.alloc (.cells #[.int .i64 0, .int .i64 0, .int .i64 0, .slice none 0 0] 32)).alloc (.cells #[.int .i64 5, .int .i64 tn, .int .i64 0, .slice none 0 0] 32) from HW]
  clear HW
  refine (key_any (raw.tdiv 7) _ hr7).mono ?_
  rintro e w1 ⟨ky, rfl, hky, hb1⟩
  have hA1 := hA.kept (hb1.block _ hA.lt)
  have hR1 := hR.kept (hb1.block _ hR.lt)
  have hB1 : Below w.heap.size w w1 := hBW.trans (hb1.mono (by omega))
  have hs1 : W.heap.size ≤ w1.heap.size := hb1.size
  obtain ⟨a0, a1, a2, a3⟩ := hR1.cells
  have f3 := hR1.frozen 3
  obtain ⟨e0, e1, e2, e3⟩ := hA1.cells
  have k0 := hA1.frozen 0
  have k1 := hA1.frozen 1
  have k2 := hA1.frozen 2
  have k3 := hA1.frozen 3
  have hlA := hA1.lt
  have hlR := hR1.lt
  have HX := fun (v : Value) (o : Obj) => (RB_set4 (hA1.set_other (o := 3) (u := v) (show w.heap.size ≠ w.heap.size + 1 by omega)) 5 tn 0 v o).cells
  have HFI : Hid (∀ v : Value, Below w.heap.size w ((((((w1.setCell ⟨w.heap.size + 1, 3, none⟩ v).setCell ⟨w.heap.size, 0, none⟩ (.int .i64 5)).setCell ⟨w.heap.size, 1, none⟩ (.int .i64 tn)).setCell ⟨w.heap.size, 2, none⟩ (.int .i64 0)).setCell ⟨w.heap.size, 3, none⟩ v))) := fun v => end4 (hB1.setCell (show w.heap.size ≤ w.heap.size + 1 by omega) _) (Nat.le_refl _) _ _ _ _
  have HHX := hide HX
  have hsz : w.heap.size ≤ w1.heap.size := by omega
  clear HX
  go_wp2_with fail
  have HX := HHX.out
  refine bodyPost_ret (v := .agg #[.int .i64 5, .int .i64 (tn : Nat), .int .i64 0, .slice (some ⟨w1.heap.size, 0, none⟩) 1 1]) (by simp [results, Try.results15, go_sem, (HX _ _).1, (HX _ _).2.1, (HX _ _).2.2.1, (HX _ _).2.2.2]) rfl ⟨5, tn, 0, _, [⟨ky, false, vv⟩], rfl, rec_five tn htn ky _ hky hvv, wsRow' _ _ (by simp) [⟨ky, false, vv⟩] (by simp), .inr ⟨_, rfl, hsz⟩, (HFI.out _).alloc (by simp; exact hsz) _⟩
set_option maxHeartbeats 2000000 in
set_option maxRecDepth 100000 in
theorem made_yes_1 (raw : Int) (i nv b off cap : Nat) (s : ByteArray) (w : World) (hr : -9223372036854775808 ≤ raw ∧ raw ≤ 9223372036854775807) (hi : i < nv) (hi8 : i ≤ 100) (hn : nv ≤ 140737488355328) (hc : w.cell? ⟨b, off + i, none⟩ = some (.string s)) (hs : s.size ≤ maxLen) (hk : 1 + pickOf raw 6 = 1) :
    Calls Try.prog 15 #[.int .i64 raw, .int .i64 i, .slice (some ⟨b, off, none⟩) nv cap] w fun e w' => MadePost w e w' := by
  obtain ⟨i0, hi0, hz0, hz1, hz2⟩ := info_parts Try.info65
  have p1 := pickOf_nonneg raw 6 (by omega)
  have p2 := pickOf_lt raw 6 (by omega)
  have t1 := pickOf_nonneg (raw.tdiv 6) 65535 (by omega)
  have t2 := pickOf_lt (raw.tdiv 6) 65535 (by omega)
  obtain ⟨tn, htn, HTN⟩ : ∃ tn : Nat, (1 ≤ tn ∧ tn ≤ 65535) ∧ Hid (1 + pickOf (raw.tdiv 6) 65535 = (tn : Int)) := ⟨(1 + pickOf (raw.tdiv 6) 65535).toNat, by omega, by show _ = _; omega⟩
  have hr6 := tdiv_range hr 6 (by omega)
  have hr7 := tdiv_range hr 7 (by omega)
  have hr11 := tdiv_range hr 11 (by omega)
  have hbw := World.block_lt_of_cell? w _ hc
  have HK : Hid (1 + pickOf raw 6 = 1) := hk
  clear hk
  go_enter Try.func15, Try.ntmps15
  go_wp2_with fail
  refine (pick_any raw 6 _ hr (by omega) (by omega)).mono ?_
  rintro e w' ⟨rfl, rfl⟩
  go_wp2_with fail
  rw [HK.out]
  refine (pick_any (raw.tdiv 6) 65535 _ hr6 (by omega) (by omega)).mono ?_
  rintro e w' ⟨rfl, rfl⟩
  go_wp2_with fail
  rw [HTN.out]
  refine (upTo_any s 16 _ hs (by omega)).mono ?_
  rintro e w' ⟨rfl, rfl⟩
  have hvv : (firstOf s 16).size ≤ 16 := by rw [firstOf_size]; omega
  generalize firstOf s 16 = vv at *
  go_wp2_with fail
  obtain ⟨W, HW, hA, hR, hWs, hBW, hsW⟩ := made_start2 w 1 tn vv
  rw [← show W = ((w.alloc (.cells #[.int .i64 0, .int .i64 0, .int .i64 0, .slice none 0 0] 32)).alloc (.cells #[.int .i64 1, .int .i64 tn, .int .i64 0, .slice (some ⟨w.heap.size + 1 + 1, 0, none⟩) 2 2] 32)).alloc (.cells #[.string ⟨#[97]⟩, .bool false, .string vv, .string ⟨#[98]⟩, .bool true, .string ⟨#[]⟩] 65) from HW]
  have hsz : w.heap.size + 3 ≤ W.heap.size := by omega
  clear HW hsW
  have v1 := pickOf_nonneg raw 5 (by omega)
  have v2 := pickOf_lt raw 5 (by omega)
  obtain ⟨a0, a1, a2, a3⟩ := hR.cells
  have f3 := hR.frozen 3
  obtain ⟨e0, e1, e2, e3⟩ := hA.cells
  have k0 := hA.frozen 0
  have k1 := hA.frozen 1
  have k2 := hA.frozen 2
  have k3 := hA.frozen 3
  have hlA := hA.lt
  have hlR := hR.lt
  refine (pick_any raw 5 _ hr (by omega) (by omega)).mono ?_
  rintro e w' ⟨rfl, rfl⟩
  by_cases h5 : pickOf raw 5 = 0
  · rw [h5]
    clear h5
    have l1 : 2 + 1 ≤ maxLen := by decide
    have hWs' : w'.ownsRow 0 65 3 (.slice (some ⟨w.heap.size + 1 + 1, 0, none⟩) 2 2) 2 (cellsOf [⟨⟨#[97]⟩, false, vv⟩, ⟨⟨#[98]⟩, true, ⟨#[]⟩⟩]) := hWs
    go_wp2_with (at_builtin; go_must (refine wpList_append_src _ rfl _ _ 30 30 rfl 65 i0 _ 3 40 Try.underlying30 hi0 hz0 hz1 hz2 rfl (by decide) _ _ _ rfl (World.ownsRow.alloc hWs' _) _ 1 _ rfl (src_alloc w' 3 _ _ _ Try.underlying30 1 _ #[.string ⟨#[98, 49, 50, 51, 52, 53, 54, 55]⟩, .bool false, .string vv] rfl rfl) (fun _ => by decide) l1 (by decide) ?_; intro u' w2 hown hgr hnw hnn; obtain ⟨ua, uc, hu⟩ := own_form hown; subst hu; have hR2 := hR.kept ((hgr.block (w.heap.size + 1) (Nat.lt_of_lt_of_le hlR (by simp)) (fun e => by have := Option.some.inj (show some (w.heap.size + 1) = some (w.heap.size + 1 + 1) from e); omega)).trans (Below.heap_alloc _ _ _ hlR)); have hA2 := hA.kept ((hgr.block w.heap.size (Nat.lt_of_lt_of_le hlA (by simp)) (fun e => by have := Option.some.inj (show some w.heap.size = some (w.heap.size + 1 + 1) from e); omega)).trans (Below.heap_alloc _ _ _ hlA)); obtain ⟨r0, r1, r2, r3⟩ := hR2.cells; have t3 := hR2.frozen 3; obtain ⟨b0, b1, b2, b3⟩ := hA2.cells; have m0 := hA2.frozen 0; have m1 := hA2.frozen 1; have m2 := hA2.frozen 2; have m3 := hA2.frozen 3))
    have hB2 : Below w.heap.size w w2 := (hBW.alloc (by omega) _).grown hgr (by simp; omega) (fun x hx => by have := Option.some.inj (show some (w.heap.size + 1 + 1) = some x from hx); omega)
    have hux : ∀ q, (Value.slice ua (2 + 1) uc).ownBlock = some q → w.heap.size + 2 ≤ q := by
      intro q hq
      rcases hnw with e | ⟨g, e, hg⟩
      · have := Option.some.inj (show some (w.heap.size + 1 + 1) = some q from e.symm.trans hq); omega
      · have := Option.some.inj (e.symm.trans hq); simp at hg; omega
    have hws2 : Ws w2 (.slice ua (2 + 1) uc) [⟨⟨#[97]⟩, false, vv⟩, ⟨⟨#[98]⟩, true, ⟨#[]⟩⟩, ⟨⟨#[98, 49, 50, 51, 52, 53, 54, 55]⟩, false, vv⟩] := hown
    obtain ⟨E1, E2, E3, E4⟩ := made_fin 1 tn hA2 hws2 hux hB2
    exact bodyPost_ret (v := .agg #[.int .i64 1, .int .i64 (tn : Nat), .int .i64 0, .slice ua (2 + 1) uc]) (by simp [results, Try.results15, go_sem, b0, b1, b2, b3]) rfl ⟨1, tn, 0, _, _, rfl, rec_many 1 (by omega) tn htn _ (ws_three _ hvv), E1, E2, E3⟩
  · have h5b : (pickOf raw 5 == 0) = false := beq_eq_false_iff_ne.2 h5
    clear h5
    have hux : ∀ q, (Value.slice (some ⟨w.heap.size + 1 + 1, 0, none⟩) 2 2).ownBlock = some q → w.heap.size + 2 ≤ q := fun q hq => by have := Option.some.inj (show some (w.heap.size + 1 + 1) = some q from hq); omega
    have HF := hide (made_fin2 1 tn hA hWs hux hBW)
    go_wp2_with fail
    obtain ⟨E1, E2, E3, E4⟩ := HF.out
    exact bodyPost_ret (v := .agg #[.int .i64 1, .int .i64 (tn : Nat), .int .i64 0, .slice (some ⟨w.heap.size + 1 + 1, 0, none⟩) 2 2]) (by simp [results, Try.results15, go_sem, e0, e1, e2, e3]) rfl ⟨1, tn, 0, _, _, rfl, rec_many 1 (by omega) tn htn _ (ws_two _ hvv), E1, E2, E3⟩
set_option maxHeartbeats 2000000 in
set_option maxRecDepth 100000 in
theorem made_yes_2 (raw : Int) (i nv b off cap : Nat) (s : ByteArray) (w : World) (hr : -9223372036854775808 ≤ raw ∧ raw ≤ 9223372036854775807) (hi : i < nv) (hi8 : i ≤ 100) (hn : nv ≤ 140737488355328) (hc : w.cell? ⟨b, off + i, none⟩ = some (.string s)) (hs : s.size ≤ maxLen) (hk : 1 + pickOf raw 6 = 2) :
    Calls Try.prog 15 #[.int .i64 raw, .int .i64 i, .slice (some ⟨b, off, none⟩) nv cap] w fun e w' => MadePost w e w' := by
  obtain ⟨i0, hi0, hz0, hz1, hz2⟩ := info_parts Try.info65
  have p1 := pickOf_nonneg raw 6 (by omega)
  have p2 := pickOf_lt raw 6 (by omega)
  have t1 := pickOf_nonneg (raw.tdiv 6) 65535 (by omega)
  have t2 := pickOf_lt (raw.tdiv 6) 65535 (by omega)
  obtain ⟨tn, htn, HTN⟩ : ∃ tn : Nat, (1 ≤ tn ∧ tn ≤ 65535) ∧ Hid (1 + pickOf (raw.tdiv 6) 65535 = (tn : Int)) := ⟨(1 + pickOf (raw.tdiv 6) 65535).toNat, by omega, by show _ = _; omega⟩
  have hr6 := tdiv_range hr 6 (by omega)
  have hr7 := tdiv_range hr 7 (by omega)
  have hr11 := tdiv_range hr 11 (by omega)
  have hbw := World.block_lt_of_cell? w _ hc
  have HK : Hid (1 + pickOf raw 6 = 2) := hk
  clear hk
  go_enter Try.func15, Try.ntmps15
  go_wp2_with fail
  refine (pick_any raw 6 _ hr (by omega) (by omega)).mono ?_
  rintro e w' ⟨rfl, rfl⟩
  go_wp2_with fail
  rw [HK.out]
  refine (pick_any (raw.tdiv 6) 65535 _ hr6 (by omega) (by omega)).mono ?_
  rintro e w' ⟨rfl, rfl⟩
  go_wp2_with fail
  rw [HTN.out]
  refine (upTo_any s 16 _ hs (by omega)).mono ?_
  rintro e w' ⟨rfl, rfl⟩
  have hvv : (firstOf s 16).size ≤ 16 := by rw [firstOf_size]; omega
  generalize firstOf s 16 = vv at *
  go_wp2_with fail
  obtain ⟨W, HW, hA, hR, hWs, hBW, hsW⟩ := made_start2 w 2 tn vv
  rw [← show W = ((w.alloc (.cells #[.int .i64 0, .int .i64 0, .int .i64 0, .slice none 0 0] 32)).alloc (.cells #[.int .i64 2, .int .i64 tn, .int .i64 0, .slice (some ⟨w.heap.size + 1 + 1, 0, none⟩) 2 2] 32)).alloc (.cells #[.string ⟨#[97]⟩, .bool false, .string vv, .string ⟨#[98]⟩, .bool true, .string ⟨#[]⟩] 65) from HW]
  have hsz : w.heap.size + 3 ≤ W.heap.size := by omega
  clear HW hsW
  have v1 := pickOf_nonneg raw 5 (by omega)
  have v2 := pickOf_lt raw 5 (by omega)
  obtain ⟨a0, a1, a2, a3⟩ := hR.cells
  have f3 := hR.frozen 3
  obtain ⟨e0, e1, e2, e3⟩ := hA.cells
  have k0 := hA.frozen 0
  have k1 := hA.frozen 1
  have k2 := hA.frozen 2
  have k3 := hA.frozen 3
  have hlA := hA.lt
  have hlR := hR.lt
  refine (pick_any raw 5 _ hr (by omega) (by omega)).mono ?_
  rintro e w' ⟨rfl, rfl⟩
  by_cases h5 : pickOf raw 5 = 0
  · rw [h5]
    clear h5
    have l1 : 2 + 1 ≤ maxLen := by decide
    have hWs' : w'.ownsRow 0 65 3 (.slice (some ⟨w.heap.size + 1 + 1, 0, none⟩) 2 2) 2 (cellsOf [⟨⟨#[97]⟩, false, vv⟩, ⟨⟨#[98]⟩, true, ⟨#[]⟩⟩]) := hWs
    go_wp2_with (at_builtin; go_must (refine wpList_append_src _ rfl _ _ 30 30 rfl 65 i0 _ 3 40 Try.underlying30 hi0 hz0 hz1 hz2 rfl (by decide) _ _ _ rfl (World.ownsRow.alloc hWs' _) _ 1 _ rfl (src_alloc w' 3 _ _ _ Try.underlying30 1 _ #[.string ⟨#[98, 49, 50, 51, 52, 53, 54, 55]⟩, .bool false, .string vv] rfl rfl) (fun _ => by decide) l1 (by decide) ?_; intro u' w2 hown hgr hnw hnn; obtain ⟨ua, uc, hu⟩ := own_form hown; subst hu; have hR2 := hR.kept ((hgr.block (w.heap.size + 1) (Nat.lt_of_lt_of_le hlR (by simp)) (fun e => by have := Option.some.inj (show some (w.heap.size + 1) = some (w.heap.size + 1 + 1) from e); omega)).trans (Below.heap_alloc _ _ _ hlR)); have hA2 := hA.kept ((hgr.block w.heap.size (Nat.lt_of_lt_of_le hlA (by simp)) (fun e => by have := Option.some.inj (show some w.heap.size = some (w.heap.size + 1 + 1) from e); omega)).trans (Below.heap_alloc _ _ _ hlA)); obtain ⟨r0, r1, r2, r3⟩ := hR2.cells; have t3 := hR2.frozen 3; obtain ⟨b0, b1, b2, b3⟩ := hA2.cells; have m0 := hA2.frozen 0; have m1 := hA2.frozen 1; have m2 := hA2.frozen 2; have m3 := hA2.frozen 3))
    have hB2 : Below w.heap.size w w2 := (hBW.alloc (by omega) _).grown hgr (by simp; omega) (fun x hx => by have := Option.some.inj (show some (w.heap.size + 1 + 1) = some x from hx); omega)
    have hux : ∀ q, (Value.slice ua (2 + 1) uc).ownBlock = some q → w.heap.size + 2 ≤ q := by
      intro q hq
      rcases hnw with e | ⟨g, e, hg⟩
      · have := Option.some.inj (show some (w.heap.size + 1 + 1) = some q from e.symm.trans hq); omega
      · have := Option.some.inj (e.symm.trans hq); simp at hg; omega
    have hws2 : Ws w2 (.slice ua (2 + 1) uc) [⟨⟨#[97]⟩, false, vv⟩, ⟨⟨#[98]⟩, true, ⟨#[]⟩⟩, ⟨⟨#[98, 49, 50, 51, 52, 53, 54, 55]⟩, false, vv⟩] := hown
    obtain ⟨E1, E2, E3, E4⟩ := made_fin 2 tn hA2 hws2 hux hB2
    exact bodyPost_ret (v := .agg #[.int .i64 2, .int .i64 (tn : Nat), .int .i64 0, .slice ua (2 + 1) uc]) (by simp [results, Try.results15, go_sem, b0, b1, b2, b3]) rfl ⟨2, tn, 0, _, _, rfl, rec_many 2 (by omega) tn htn _ (ws_three _ hvv), E1, E2, E3⟩
  · have h5b : (pickOf raw 5 == 0) = false := beq_eq_false_iff_ne.2 h5
    clear h5
    have hux : ∀ q, (Value.slice (some ⟨w.heap.size + 1 + 1, 0, none⟩) 2 2).ownBlock = some q → w.heap.size + 2 ≤ q := fun q hq => by have := Option.some.inj (show some (w.heap.size + 1 + 1) = some q from hq); omega
    have HF := hide (made_fin2 2 tn hA hWs hux hBW)
    go_wp2_with fail
    obtain ⟨E1, E2, E3, E4⟩ := HF.out
    exact bodyPost_ret (v := .agg #[.int .i64 2, .int .i64 (tn : Nat), .int .i64 0, .slice (some ⟨w.heap.size + 1 + 1, 0, none⟩) 2 2]) (by simp [results, Try.results15, go_sem, e0, e1, e2, e3]) rfl ⟨2, tn, 0, _, _, rfl, rec_many 2 (by omega) tn htn _ (ws_two _ hvv), E1, E2, E3⟩
/-- the slice v holds n texts -/
def StrsAt (w : World) (v : Value) (n : Nat) : Prop := ∃ a cap, v = .slice a n cap ∧ ∀ i, i < n → ∃ b off s, a = some ⟨b, off, none⟩ ∧ w.cell? ⟨b, off + i, none⟩ = some (.string s) ∧ s.size ≤ maxLen
theorem made_any (raw : Int) (i nv : Nat) (v : Value) (w : World) (hr : -9223372036854775808 ≤ raw ∧ raw ≤ 9223372036854775807) (hi8 : i ≤ 100) (hn : nv ≤ 140737488355328) (hv : StrsAt w v nv) :
    Calls Try.prog 15 #[.int .i64 raw, .int .i64 i, v] w fun e w' => MadePost w e w' := by
  obtain ⟨a, cap, rfl, hat⟩ := hv
  have p1 := pickOf_nonneg raw 6 (by omega)
  have p2 := pickOf_lt raw 6 (by omega)
  have hc : 1 + pickOf raw 6 = 1 ∨ 1 + pickOf raw 6 = 2 ∨ 1 + pickOf raw 6 = 3 ∨ 1 + pickOf raw 6 = 4 ∨ 1 + pickOf raw 6 = 5 ∨ 1 + pickOf raw 6 = 6 := by omega
  by_cases hi : i < nv
  · obtain ⟨b, off, s, rfl, hcell, hs⟩ := hat i hi
    rcases hc with h | h | h | h | h | h
    · exact made_yes_1 raw i nv b off cap s w hr hi hi8 hn hcell hs h
    · exact made_yes_2 raw i nv b off cap s w hr hi hi8 hn hcell hs h
    · exact made_yes_3 raw i nv b off cap s w hr hi hi8 hn hcell hs h
    · exact made_yes_4 raw i nv b off cap s w hr hi hi8 hn hcell hs h
    · exact made_yes_5 raw i nv b off cap s w hr hi hi8 hn hcell hs h
    · exact made_yes_6 raw i nv b off cap s w hr hi hi8 hn hcell hs h
  · rcases hc with h | h | h | h | h | h
    · exact made_no_1 raw i nv cap a w hr hi hi8 hn h
    · exact made_no_2 raw i nv cap a w hr hi hi8 hn h
    · exact made_no_3 raw i nv cap a w hr hi hi8 hn h
    · exact made_no_4 raw i nv cap a w hr hi hi8 hn h
    · exact made_no_5 raw i nv cap a w hr hi hi8 hn h
    · exact made_no_6 raw i nv cap a w hr hi hi8 hn h
end Go.Proofs.Ytneepapppbchnaa
