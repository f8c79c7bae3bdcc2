/- The walks of sameWrites and sameRecords. -/
import Derived.Test.YtneepapppbchnaaRScan
namespace Go.Proofs.Ytneepapppbchnaa
open Go.RowKit
set_option linter.unusedVariables false

set_option maxHeartbeats 400000 in
set_option maxRecDepth 100000 in
theorem sameWrites_some (ws : List WrL) (b off cap b' off' cap' : Nat) (w : World) (h : CellsAt w b off ws) (h' : CellsAt w b' off' ws) (hm : ws.length ≤ 1000) :
    Calls Try.prog 45 #[.slice (some ⟨b, off, none⟩) ws.length cap, .slice (some ⟨b', off', none⟩) ws.length cap'] w fun e w' => e = .returned (.bool true) ∧ Below w.heap.size w w' := by
  go_enter Try.func45, Try.ntmps45
  go_wp2_with fail
  go_loopw [5] (fun i wr => ∃ k : Nat, k ≤ ws.length ∧ i = .int .i64 (k : Int) ∧ Below w.heap.size w wr) (fun i _ => ws.length - (intOf i).toNat)
  case atStart => exact ⟨0, by omega, rfl, Below.refl _ _⟩
  case round =>
    obtain ⟨k, hk, rfl, hbel⟩ := hrel
    by_cases hlt : k < ws.length
    · obtain ⟨c0, c1, c2⟩ := h.below hbel k hlt
      obtain ⟨d0, d1, d2⟩ := h'.below hbel k hlt
      generalize ws[k] = r at *
      obtain ⟨ck, cd, cv⟩ := r
      simp only at c0 c1 c2 d0 d1 d2
      go_wp2_with fail
      go_quiet (fail)
      go_wp2_with fail
      go_roundw
      case rel => exact ⟨k + 1, by omega, by go_num, below_drewN hbel nq⟩
      case measure => simp [intOf]; omega
    · go_wp2_with fail
      go_ret
      exact ⟨rfl, hbel⟩
set_option maxHeartbeats 400000 in
theorem sameWrites_none (a a' : Option Addr) (cap cap' : Nat) (w : World) :
    Calls Try.prog 45 #[.slice a 0 cap, .slice a' 0 cap'] w fun e w' => e = .returned (.bool true) ∧ Below w.heap.size w w' := by
  go_enter Try.func45, Try.ntmps45
  go_wp2_with fail
  go_loopw [5] (fun i wr => i = .int .i64 0 ∧ Below w.heap.size w wr) (fun i _ => 0)
  case atStart => exact ⟨rfl, Below.refl _ _⟩
  case round =>
    obtain ⟨rfl, hbel⟩ := hrel
    go_wp2_with fail
    go_ret
    exact ⟨rfl, hbel⟩
theorem sameWrites_any (ws : List WrL) (v v' : Value) (w : World) (h : WsAt w v ws) (h' : WsAt w v' ws) (hm : ws.length ≤ 1000) :
    Calls Try.prog 45 #[v, v'] w fun e w' => e = .returned (.bool true) ∧ Below w.heap.size w w' := by
  by_cases h0 : ws.length = 0
  · obtain ⟨a, cap, rfl⟩ := h.form
    obtain ⟨a', cap', rfl⟩ := h'.form
    rw [h0]
    exact sameWrites_none a a' cap cap' w
  · rcases h with ⟨_, rfl⟩ | ⟨b, off, cap, rfl, hc⟩
    · exact absurd rfl h0
    rcases h' with ⟨_, rfl⟩ | ⟨b', off', cap', rfl, hc'⟩
    · exact absurd rfl h0
    exact sameWrites_some ws b off cap b' off' cap' w hc hc' hm
/-- the cells of the i-th record -/
theorem recCells_get (rs : List (RecL × Value)) (i : Nat) (h : i < rs.length) : (recCells rs)[i * 4]? = some (.int .i64 (rs[i].1.kind : Nat)) ∧ (recCells rs)[i * 4 + 1]? = some (.int .i64 (rs[i].1.time : Nat)) ∧ (recCells rs)[i * 4 + 2]? = some (.int .i64 (rs[i].1.gen : Nat)) ∧ (recCells rs)[i * 4 + 3]? = some rs[i].2 := by
  induction rs generalizing i with
  | nil => simp at h
  | cons r rows ih =>
    have hc : recCells (r :: rows) = .int .i64 (r.1.kind : Nat) :: .int .i64 (r.1.time : Nat) :: .int .i64 (r.1.gen : Nat) :: r.2 :: recCells rows := rfl
    rw [hc]
    cases i with
    | zero => simp
    | succ i =>
      have := ih i (by simpa using h)
      rw [show (i + 1) * 4 = i * 4 + 4 by omega]
      simpa using this
theorem Recs.at {B : Nat} {w : World} {v : Value} {rs : List (RecL × Value)} (h : Recs B w v rs) (h0 : 0 < rs.length) : ∃ b cap, v = .slice (some ⟨b, 0, none⟩) rs.length cap ∧ b < w.heap.size ∧ ∀ i (hi : i < rs.length), w.cell? ⟨b, i * 4, none⟩ = some (.int .i64 (rs[i].1.kind : Nat)) ∧ w.cell? ⟨b, i * 4 + 1, none⟩ = some (.int .i64 (rs[i].1.time : Nat)) ∧ w.cell? ⟨b, i * 4 + 2, none⟩ = some (.int .i64 (rs[i].1.gen : Nat)) ∧ w.cell? ⟨b, i * 4 + 3, none⟩ = some rs[i].2 := by
  rcases h.row.2 with ⟨rfl, h2⟩ | ⟨g, cap, cur, rfl, _⟩
  · omega
  · refine ⟨g, cap, rfl, (World.ownsRow.lt h.row g rfl).2, fun i hi => ?_⟩
    have hc := World.ownsRow.cells h.row (g := g) rfl
    obtain ⟨k0, k1, k2, k3⟩ := recCells_get rs i hi
    have q0 := hc _ _ k0
    have q1 := hc _ _ k1
    have q2 := hc _ _ k2
    have q3 := hc _ _ k3
    simp only [Addr.add_lit, Nat.zero_add] at q0 q1 q2 q3
    exact ⟨q0, q1, q2, q3⟩
set_option maxHeartbeats 400000 in
theorem sameRecords_none (a a' : Option Addr) (cap cap' : Nat) (w : World) :
    Calls Try.prog 28 #[.slice a 0 cap, .slice a' 0 cap'] w fun e w' => e = .returned (.bool true) ∧ Below w.heap.size w w' := by
  go_enter Try.func28, Try.ntmps28
  go_wp2_with fail
  go_loopw [5, 6] (fun i _ wr => i = .int .i64 0 ∧ Below w.heap.size w wr) (fun i _ _ => 0)
  case atStart => exact ⟨rfl, Below.refl _ _⟩
  case round =>
    obtain ⟨rfl, hbel⟩ := hrel
    go_wp2_with fail
    go_ret
    exact ⟨rfl, hbel⟩
set_option maxHeartbeats 1000000 in
set_option maxRecDepth 100000 in
theorem sameRecords_some {B B' : Nat} (rs rs' : List (RecL × Value)) (b cap b' cap' : Nat) (w : World) (hR : Recs B w (.slice (some ⟨b, 0, none⟩) rs.length cap) rs) (hR' : Recs B' w (.slice (some ⟨b', 0, none⟩) rs'.length cap') rs') (he : rs.map (·.1) = rs'.map (·.1)) (h0 : 0 < rs.length) (hm : rs.length ≤ 1000000000000) (hw : ∀ p ∈ rs, p.1.writes.length ≤ 1000) :
    Calls Try.prog 28 #[.slice (some ⟨b, 0, none⟩) rs.length cap, .slice (some ⟨b', 0, none⟩) rs'.length cap'] w fun e w' => e = .returned (.bool true) ∧ Below w.heap.size w w' := by
  have hlen : rs'.length = rs.length := by have := congrArg List.length he; simpa using this.symm
  obtain ⟨_, _, e1, hb1, hat⟩ := hR.at h0
  obtain ⟨_, _, e2, hb2, hat'⟩ := hR'.at (by omega)
  injection e1 with e1 _ _
  injection e1 with e1
  injection e1 with e1
  subst e1
  injection e2 with e2 _ _
  injection e2 with e2
  injection e2 with e2
  subst e2
  have HE : Hid (rs.map (·.1) = rs'.map (·.1)) := he
  have HL : Hid (rs'.length = rs.length) := hlen
  rw [hlen]
  clear he hlen
  go_enter Try.func28, Try.ntmps28
  go_wp2_with fail
  go_loopw [5, 6] (fun i _ wr => ∃ k : Nat, k ≤ rs.length ∧ i = .int .i64 (k : Int) ∧ Below w.heap.size w wr) (fun i _ _ => rs.length - (intOf i).toNat)
  case atStart => exact ⟨0, by omega, rfl, Below.refl _ _⟩
  case round =>
    obtain ⟨k, hk, rfl, hbel⟩ := hrel
    by_cases hlt : k < rs.length
    · have hlt' : k < rs'.length := by rw [HL.out]; exact hlt
      obtain ⟨c0, c1, c2, c3⟩ := hat k hlt
      obtain ⟨d0, d1, d2, d3⟩ := hat' k hlt'
      have hr : rs'[k].1 = rs[k].1 := by
        have := congrArg (fun l => l[k]?) HE.out
        simp only [List.getElem?_map, List.getElem?_eq_getElem hlt, List.getElem?_eq_getElem hlt', Option.map_some] at this
        exact (Option.some.inj this).symm
      have hws := hR.each rs[k] (List.getElem_mem hlt)
      have hws' := hR'.each rs'[k] (List.getElem_mem hlt')
      have hwl := hw rs[k] (List.getElem_mem hlt)
      rw [hr] at d0 d1 d2 hws'
      generalize rs[k].1.kind = kk at *
      generalize rs[k].1.time = tt at *
      generalize rs[k].1.gen = gg at *
      generalize rs[k].1.writes = wws at *
      generalize hv1 : rs[k].2 = v1 at *
      generalize hv2 : rs'[k].2 = v2 at *
      clear hv1 hv2 hr
      have ha1 := hws.at
      have ha2 := hws'.at
      obtain ⟨p1, p2, hp⟩ := hws.form
      obtain ⟨p3, p4, hp'⟩ := hws'.form
      subst hp hp'
      replace c0 := (hbel.cell hb1).trans c0
      replace c1 := (hbel.cell hb1).trans c1
      replace c2 := (hbel.cell hb1).trans c2
      replace c3 := (hbel.cell hb1).trans c3
      replace d0 := (hbel.cell hb2).trans d0
      replace d1 := (hbel.cell hb2).trans d1
      replace d2 := (hbel.cell hb2).trans d2
      replace d3 := (hbel.cell hb2).trans d3
      replace ha1 := ha1.below hbel
      replace ha2 := ha2.below hbel
      have W3 := BelowW.cell c3
      have W4 := BelowW.cell d3
      haveI := BelowW.ne wr
      clear hat hat' hws hws'
      go_wp2_with fail
      refine wp_region_calm (by kernel_rfl) (by kernel_rfl) ?_
      repeat (go_big_quiet_step ((go_at_call 45; refine calm_of _ (sameWrites_any wws _ _ _ (ha1.below (BelowW.h _)) (ha2.below (BelowW.h _)) hwl))))
      refine wpQuiet_nil ?_
      rintro _ ⟨xq, rfl⟩
      replace c0 := BelowW.cell c0 xq
      replace c1 := BelowW.cell c1 xq
      replace c2 := BelowW.cell c2 xq
      replace c3 := BelowW.cell c3 xq
      replace d0 := BelowW.cell d0 xq
      replace d1 := BelowW.cell d1 xq
      replace d2 := BelowW.cell d2 xq
      replace d3 := BelowW.cell d3 xq
      have hbx : Below w.heap.size w xq.w := hbel.trans (xq.h.mono hbel.size)
      clear W3 W4
      generalize xq.w = wx at *
      go_wp2_with fail
      go_quiet (fail)
      go_wp2_with fail
      go_roundw
      case rel => exact ⟨k + 1, by omega, by go_num, below_drewN hbx nq⟩
      case measure => simp [intOf]; omega
    · go_wp2_with fail
      go_ret
      exact ⟨rfl, hbel⟩
theorem sameRecords_any {B B' : Nat} (rs rs' : List (RecL × Value)) (v v' : Value) (w : World) (hR : Recs B w v rs) (hR' : Recs B' w v' rs') (he : rs.map (·.1) = rs'.map (·.1)) (hm : rs.length ≤ 1000000000000) (hw : ∀ p ∈ rs, p.1.writes.length ≤ 1000) :
    Calls Try.prog 28 #[v, v'] w fun e w' => e = .returned (.bool true) ∧ Below w.heap.size w w' := by
  have hlen : rs'.length = rs.length := by have := congrArg List.length he; simpa using this.symm
  by_cases h0 : rs.length = 0
  · obtain ⟨a, cap, rfl⟩ := own_form hR.row
    obtain ⟨a', cap', rfl⟩ := own_form hR'.row
    rw [hlen, h0]
    exact sameRecords_none a a' cap cap' w
  · obtain ⟨b, cap, rfl, _⟩ := hR.at (by omega)
    obtain ⟨b', cap', rfl, _⟩ := hR'.at (by omega)
    exact sameRecords_some rs rs' b cap b' cap' w hR hR' he (by omega) hm hw
end Go.Proofs.Ytneepapppbchnaa
