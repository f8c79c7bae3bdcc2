/- The walks of appendWrites, payload and Encode. -/
import Derived.Test.YtneepapppbchnaaRecs
import Derived.Test.YtneepapppbchnaaBytes
import Derived.Deep.RegionHeld3
namespace Go.Proofs.Ytneepapppbchnaa
open Go.RowKit
set_option linter.unusedVariables false

def wrBytes (r : WrL) : List UInt8 := [if r.dead then 1 else 0] ++ (numL r.key.size 1 ++ r.key.data.toList) ++ (numL r.value.size 1 ++ r.value.data.toList)
def wsBytes (ws : List WrL) : List UInt8 := numL ws.length 1 ++ ws.flatMap wrBytes
/-- small enough to be written -/
def Short (ws : List WrL) : Prop := ws.length ≤ 6 ∧ ∀ i (h : i < ws.length), ws[i].key.size ≤ 8 ∧ ws[i].value.size ≤ 16
theorem size_list (s : ByteArray) : s.data.toList.length = s.size := Array.length_toList
theorem wrBytes_length (r : WrL) (h : r.key.size ≤ 8 ∧ r.value.size ≤ 16) : (wrBytes r).length ≤ 27 := by
  unfold wrBytes
  simp only [List.length_append, numL_length, size_list, List.length_singleton]
  omega
theorem take_flat (ws : List WrL) (k : Nat) (h : k < ws.length) : (ws.take (k + 1)).flatMap wrBytes = (ws.take k).flatMap wrBytes ++ wrBytes ws[k] := by
  rw [List.take_succ_eq_append_getElem h, List.flatMap_append]; simp
theorem flat_length (ws : List WrL) (hs : ∀ i (h : i < ws.length), ws[i].key.size ≤ 8 ∧ ws[i].value.size ≤ 16) (k : Nat) (hk : k ≤ ws.length) : ((ws.take k).flatMap wrBytes).length ≤ 27 * k := by
  induction k with
  | zero => simp
  | succ k ih =>
    rw [take_flat ws k (by omega), List.length_append]
    have := wrBytes_length ws[k] (hs k (by omega))
    have := ih (by omega)
    omega
theorem ne_newer {W : World} {v v1 : Value} {b : Nat} (h : some b ≠ v.ownBlock) (hn : Newer W v v1) (hb : b < W.heap.size) : some b ≠ v1.ownBlock := by
  rcases hn with e | ⟨g, e, hg⟩
  · rw [e]; exact h
  · rw [e]; intro c; injection c; omega
theorem Bs.ne_size {w : World} {v : Value} {l : List UInt8} (h : Bs w v l) : some w.heap.size ≠ v.ownBlock := by
  intro e
  have := (World.ownsRow.lt h) _ e.symm
  omega

set_option maxHeartbeats 400000 in
set_option maxRecDepth 100000 in
theorem appendWrites_some (v : Value) (l : List UInt8) (ws : List WrL) (b off cap : Nat) (w : World) (hv : Bs w v l) (hl : l.length ≤ 1000) (hc : CellsAt w b off ws) (hsh : Short ws) (hd : 0 < ws.length → some b ≠ v.ownBlock) :
    Calls Try.prog 62 #[v, .slice (some ⟨b, off, none⟩) ws.length cap] w fun e w' => ∃ v', e = .returned v' ∧ Bs w' v' (l ++ wsBytes ws) ∧ w.grownBy w' v.ownBlock ∧ Newer w v v' := by
  obtain ⟨h6, hsz⟩ := hsh
  go_enter Try.func62, Try.ntmps62
  go_wp2_with fail
  refine (appendNumber_any v l ws.length 1 _ hv (by omega) (by omega) (by omega)).mono ?_
  rintro e w1 ⟨v1, rfl, hb1, hg1, hn1⟩
  have HL : Hid ((l ++ numL ws.length 1).length = l.length + 1) := by
    show _ = _
    rw [List.length_append, numL_length]
  have HE : Hid (l ++ wsBytes ws = l ++ numL ws.length 1 ++ ws.flatMap wrBytes) := by
    show _ = _
    unfold wsBytes; rw [List.append_assoc]
  generalize l ++ numL ws.length 1 = l1 at *
  go_wp2
  go_loopw [0, 6, 13] (fun u _ i wr => ∃ k : Nat, k ≤ ws.length ∧ i = .int .i64 k ∧ Bs wr u (l1 ++ (ws.take k).flatMap wrBytes) ∧ w.grownBy wr v.ownBlock ∧ Newer w v u) (fun _ _ i _ => ws.length - (intOf i).toNat)
  case atStart => exact ⟨0, Nat.zero_le _, rfl, by simpa using hb1, hg1, hn1⟩
  case round =>
    obtain ⟨k, hk, rfl, hb, hg, hn⟩ := hrel
    have hfl := flat_length ws hsz k hk
    have hln : (l1 ++ (ws.take k).flatMap wrBytes).length ≤ l.length + 1 + 27 * k := by rw [List.length_append, HL.out]; omega
    by_cases hlt : k < ws.length
    · have hbw := hc.lt (by omega)
      have hcr : CellsAt wr b off ws := hc.same fun hp => hg.block b hbw (hd hp)
      obtain ⟨c0, c1, c2⟩ := hcr k hlt
      have hz := hsz k hlt
      have HT : Hid ((ws.take (k + 1)).flatMap wrBytes = (ws.take k).flatMap wrBytes ++ wrBytes ws[k]) := take_flat ws k hlt
      generalize ws[k] = r at *
      generalize h2 : l1 ++ (ws.take k).flatMap wrBytes = l2 at *
      have H2 : Hid (l2 = l1 ++ (ws.take k).flatMap wrBytes) := h2.symm
      clear hfl h2
      have hbx := World.ownsRow.alloc hb (.cells #[.string r.key, .bool r.dead, .string r.value] 65)
      have hne0 := hb.ne_size
      have hx0 := cell0a wr (.string r.key) (.bool r.dead) (.string r.value) 65
      have hx2 := cell2a wr (.string r.key) (.bool r.dead) (.string r.value) 65
      go_wp2_with fail
      refine (appendFlag_any _ l2 r.dead _ hbx (by omega)).mono ?_
      rintro e wa ⟨va, rfl, hba, hga, hna⟩
      have ka := hga.cell hx0 hne0
      have kb := hga.cell hx2 hne0
      have hnea := ne_newer hne0 hna (by simp)
      have hsa : wr.heap.size < wa.heap.size := by have := hga.size; simp at this; omega
      go_wp2_with fail
      refine (appendText_any va _ r.key _ hba (by simp; omega) (by omega)).mono ?_
      rintro e wb ⟨vb, rfl, hbb, hgb, hnb⟩
      have kc := hgb.cell kb hnea
      go_wp2_with fail
      refine (appendText_any vb _ r.value _ hbb (by simp [numL_length]; omega) (by omega)).mono ?_
      rintro e wc ⟨vc, rfl, hbc, hgc, hnc⟩
      go_wp2_with fail
      go_roundw
      case rel =>
        refine ⟨k + 1, by omega, by go_num, ?_, ?_, ?_⟩
        · rw [HT.out]
          have e1 : l1 ++ ((ws.take k).flatMap wrBytes ++ wrBytes r) = l2 ++ [if r.dead = true then 1 else 0] ++ numL r.key.size 1 ++ r.key.data.toList ++ numL r.value.size 1 ++ r.value.data.toList := by
            rw [H2.out]; unfold wrBytes; simp only [List.append_assoc]
          rw [e1]; exact hbc
        · exact grown_trans (grown_alloc hg _) hn (grown_trans hga hna (grown_trans hgb hnb hgc))
        · exact Newer.trans hn (Nat.le_trans hg.size (by simp)) (Newer.trans hna hga.size (Newer.trans hnb hgb.size hnc))
      case measure => simp [intOf]; omega
    · obtain rfl : k = ws.length := by omega
      rw [List.take_length] at hb
      go_wp2
      go_ret
      exact ⟨_, rfl, by rw [HE.out]; exact hb, hg, hn⟩

/-- the payload -/
def payL (k t g : Nat) (ws : List WrL) : List UInt8 :=
  if k = 1 ∨ k = 2 ∨ k = 5 then numL t 2 ++ wsBytes ws else if k = 3 then numL t 2 else if k = 4 then numL t 2 ++ numL g 2 else []
theorem Bs_nil (w : World) : Bs w (.slice none 0 0) [] := World.ownsRow_nil w 0 _ 1
/-- what is said behind the region of One, Part and Item -/
theorem pay_end {w W w1 w2 : World} {v1 v2 : Value} {l1 l2 : List UInt8} (hW : Below w.heap.size w W) (hs : w.heap.size ≤ W.heap.size) (hg1 : W.grownBy w1 (Value.ownBlock (.slice none 0 0))) (hn1 : Newer W (.slice none 0 0) v1)
    (hg2 : w1.grownBy w2 v1.ownBlock) (hn2 : Newer w1 v1 v2) : Below w.heap.size w w2 ∧ (∀ g, v2.ownBlock = some g → w.heap.size ≤ g) := by
  have h1 : W.grownBy w2 (Value.ownBlock (.slice none 0 0)) := grown_trans hg1 hn1 hg2
  have h2 : Newer W (.slice none 0 0) v2 := hn1.trans hg1.size hn2
  refine ⟨hW.trans (below_of_grown h1 hs (fun g hg => by cases hg)), fun g hg => ?_⟩
  rcases h2 with e | ⟨g', e, h⟩
  · rw [e] at hg; cases hg
  · rw [e] at hg; cases hg; omega
set_option maxHeartbeats 400000 in
set_option maxRecDepth 100000 in
theorem payload_1 (k : Int) (t g : Nat) (ws : List WrL) (b off cap : Nat) (w : World) (hc : CellsAt w b off ws) (hp : 0 < ws.length) (hsh : Short ws) (ht : t ≤ 65535)
    (hk : (k == 1) = true ∨ (k == 1) = false ∧ ((k == 2) = true ∨ (k == 2) = false ∧ (k == 5) = true)) :
    Calls Try.prog 50 #[recV k t g (.slice (some ⟨b, off, none⟩) ws.length cap)] w fun e w' => ∃ v', e = .returned v' ∧ Bs w' v' (numL t 2 ++ wsBytes ws) ∧ Below w.heap.size w w' ∧ (∀ g, v'.ownBlock = some g → w.heap.size ≤ g) := by
  have hbw := hc.lt hp
  have hca : CellsAt (w.alloc (.cells #[.int .i64 k, .int .i64 t, .int .i64 g, .slice (some ⟨b, off, none⟩) ws.length cap] 32)) b off ws := hc.below (box_below _ _)
  have hx1 : (w.alloc (.cells #[.int .i64 k, .int .i64 t, .int .i64 g, .slice (some ⟨b, off, none⟩) ws.length cap] 32)).cell? ⟨w.heap.size, 1, none⟩ = some (.int .i64 t) := by simp
  have hx3 : (w.alloc (.cells #[.int .i64 k, .int .i64 t, .int .i64 g, .slice (some ⟨b, off, none⟩) ws.length cap] 32)).cell? ⟨w.heap.size, 3, none⟩ = some (.slice (some ⟨b, off, none⟩) ws.length cap) := by simp
  have hBW := box_below w (.cells #[.int .i64 k, .int .i64 t, .int .i64 g, .slice (some ⟨b, off, none⟩) ws.length cap] 32)
  unfold recV
  rcases hk with g1 | ⟨g1, g2 | ⟨g2, g5⟩⟩
  all_goals
    go_enter Try.func50, Try.ntmps50
    go_wp2
    generalize w.alloc (.cells #[.int .i64 k, .int .i64 t, .int .i64 g, .slice (some ⟨b, off, none⟩) ws.length cap] 32) = W at *
    have HX3 : Hid (W.drew.cell? ⟨w.heap.size, 3, none⟩ = some (.slice (some ⟨b, off, none⟩) ws.length cap)) := hx3
    have hbW : b < W.drew.heap.size := Nat.lt_of_lt_of_le hbw hBW.size
    have HX1 : Hid (W.drew.cell? ⟨w.heap.size, 1, none⟩ = some (.int .i64 t)) := hx1
    have hwW : w.heap.size < W.drew.heap.size := World.block_lt_of_cell? W _ hx1
    have hl2 : ([] ++ numL t 2).length ≤ 1000 := by simp [numL_length]
    go_region_held3 (fun w' => w'.cell? ⟨w.heap.size, 1, none⟩ = some (.int .i64 t) ∧ w'.cell? ⟨w.heap.size, 3, none⟩ = some (.slice (some ⟨b, off, none⟩) ws.length cap)) (refine ⟨?_, ?_⟩ <;> assumption) (first
      | (go_at_call 51; go_must (refine (appendNumber_any (.slice none 0 0) [] t 2 _ (Bs_nil _) (by omega) (by omega) (by simp)).mono ?_; rintro e w1 ⟨v1, rfl, hb1, hg1, hn1⟩; have kx : w1.cell? ⟨w.heap.size, 3, none⟩ = some (.slice (some ⟨b, off, none⟩) ws.length cap) := hg1.cell HX3.out (fun h => by cases h); have ky : w1.cell? ⟨w.heap.size, 1, none⟩ = some (.int .i64 t) := hg1.cell HX1.out (fun h => by cases h); have ca1 : CellsAt w1 b off ws := hca.same fun _ => hg1.block b hbW (fun h => by cases h); have d1 : 0 < ws.length → some b ≠ v1.ownBlock := fun _ => ne_newer (fun h => by cases h) hn1 hbW; have d2 : some w.heap.size ≠ v1.ownBlock := ne_newer (fun h => by cases h) hn1 hwW))
      | (go_at_call 62; go_must (refine (appendWrites_some v1 ([] ++ numL t 2) ws b off cap w1 hb1 hl2 ca1 hsh d1).mono ?_; rintro e w2 ⟨v2, rfl, hb2, hg2, hn2⟩; have kx2 : w2.cell? ⟨w.heap.size, 3, none⟩ = some (.slice (some ⟨b, off, none⟩) ws.length cap) := hg2.cell kx d2; have ky2 : w2.cell? ⟨w.heap.size, 1, none⟩ = some (.int .i64 t) := hg2.cell ky d2)))
    all_goals
      go_wp2
      go_ret
      obtain ⟨r1, r2⟩ := pay_end (l1 := []) (l2 := []) hBW.drew hBW.size hg1 hn1 hg2 hn2
      exact ⟨_, rfl, hb2, r1, r2⟩

theorem wrB_short {r : WrL} (h : wrB r = true) : r.key.size ≤ 8 ∧ r.value.size ≤ 16 := by
  have h1 := of_decide_eq_true (show decide _ = true from h)
  have h2 := of_decide_eq_true (show decide _ = true from h1.2.1)
  exact ⟨h2.2, h1.2.2⟩
theorem wsB_short {ws : List WrL} (h : wsB ws 6 = true) : 0 < ws.length ∧ Short ws := by
  obtain ⟨h1, h2, h3⟩ := (wsB_iff ws 6).1 h
  exact ⟨h1, h2, fun i hi => wrB_short (h3 i hi hi).1⟩
theorem itemB_short {ws : List WrL} (h : itemB ws = true) : 0 < ws.length ∧ Short ws := by
  match ws, h with
  | [r], h =>
    have h1 : wrB r = true := by
      have h2 : (wrB r && !r.dead) = true := h
      simp only [Bool.and_eq_true] at h2; exact h2.1
    refine ⟨by simp, by simp, fun i hi => ?_⟩
    obtain rfl : i = 0 := by simpa using hi
    exact wrB_short h1
theorem noneB_len {ws : List WrL} (h : noneB ws = true) : ws.length = 0 := of_decide_eq_true h
/-- what a record's numbers are -/
theorem rec_nat {k t g : Int} {ws : List WrL} (h : recB k t g ws = true) : ∃ kn tn gn : Nat, k = kn ∧ t = tn ∧ g = gn ∧ 1 ≤ kn ∧ kn ≤ 6 ∧ tn ≤ 65535 ∧ gn ≤ 65535 ∧
    (kn = 1 ∨ kn = 2 ∨ kn = 5 → 0 < ws.length ∧ Short ws) ∧ (kn = 3 ∨ kn = 4 ∨ kn = 6 → ws.length = 0) := by
  unfold recB at h
  by_cases h1 : k = 1 ∨ k = 2
  · rw [if_pos h1] at h
    simp only [Bool.and_eq_true, timeB_iff, decide_eq_true_eq] at h
    obtain ⟨⟨h2, h3⟩, h4, h5⟩ := h
    refine ⟨k.toNat, t.toNat, g.toNat, by omega, by omega, by omega, by omega, by omega, by omega, by omega, fun _ => wsB_short h5, fun hh => by omega⟩
  rw [if_neg h1] at h
  by_cases h3 : k = 3
  · rw [if_pos h3] at h
    simp only [Bool.and_eq_true, timeB_iff, decide_eq_true_eq] at h
    obtain ⟨⟨h2, h3⟩, h4, h5⟩ := h
    exact ⟨k.toNat, t.toNat, g.toNat, by omega, by omega, by omega, by omega, by omega, by omega, by omega, fun hh => by omega, fun _ => noneB_len h5⟩
  rw [if_neg h3] at h
  by_cases h4 : k = 4
  · rw [if_pos h4] at h
    simp only [Bool.and_eq_true, Bool.or_eq_true, timeB_iff, decide_eq_true_eq] at h
    obtain ⟨h2, h3, h5⟩ := h
    exact ⟨k.toNat, t.toNat, g.toNat, by omega, by omega, by omega, by omega, by omega, by omega, by omega, fun hh => by omega, fun _ => noneB_len h5⟩
  rw [if_neg h4] at h
  by_cases h5 : k = 5
  · rw [if_pos h5] at h
    simp only [Bool.and_eq_true, timeB_iff, decide_eq_true_eq] at h
    obtain ⟨⟨h2, h3⟩, h4, h6⟩ := h
    exact ⟨k.toNat, t.toNat, g.toNat, by omega, by omega, by omega, by omega, by omega, by omega, by omega, fun _ => itemB_short h6, fun hh => by omega⟩
  rw [if_neg h5] at h
  by_cases h6 : k = 6
  · rw [if_pos h6] at h
    simp only [Bool.and_eq_true, decide_eq_true_eq] at h
    obtain ⟨h2, h3, h7⟩ := h
    exact ⟨k.toNat, t.toNat, g.toNat, by omega, by omega, by omega, by omega, by omega, by omega, by omega, fun hh => by omega, fun _ => noneB_len h7⟩
  rw [if_neg h6] at h
  cases h

set_option maxHeartbeats 400000 in
set_option maxRecDepth 100000 in
theorem payload_3 (t g : Nat) (u : Value) (w : World) (ht : t ≤ 65535) :
    Calls Try.prog 50 #[recV 3 t g u] w fun e w' => ∃ v', e = .returned v' ∧ Bs w' v' (numL t 2) ∧ Below w.heap.size w w' ∧ (∀ g, v'.ownBlock = some g → w.heap.size ≤ g) := by
  have hBW := box_below w (.cells #[.int .i64 3, .int .i64 t, .int .i64 g, u] 32)
  unfold recV
  go_enter Try.func50, Try.ntmps50
  go_wp2_with fail
  refine (appendNumber_any (.slice none 0 0) [] t 2 _ (Bs_nil _) (by omega) (by omega) (by simp)).mono ?_
  rintro e w1 ⟨v1, rfl, hb1, hg1, hn1⟩
  obtain ⟨r1, r2⟩ := pay_end (l1 := []) (l2 := []) hBW hBW.size hg1 hn1 (grown_refl w1 _) (Newer.refl w1 v1)
  go_wp2_with fail
  go_ret
  exact ⟨_, rfl, hb1, r1, r2⟩
set_option maxHeartbeats 400000 in
set_option maxRecDepth 100000 in
theorem payload_4 (t g : Nat) (u : Value) (w : World) (ht : t ≤ 65535) (hg : g ≤ 65535) :
    Calls Try.prog 50 #[recV 4 t g u] w fun e w' => ∃ v', e = .returned v' ∧ Bs w' v' (numL t 2 ++ numL g 2) ∧ Below w.heap.size w w' ∧ (∀ g, v'.ownBlock = some g → w.heap.size ≤ g) := by
  have hBW := box_below w (.cells #[.int .i64 4, .int .i64 t, .int .i64 g, u] 32)
  have hx1 : (w.alloc (.cells #[.int .i64 4, .int .i64 t, .int .i64 g, u] 32)).cell? ⟨w.heap.size, 1, none⟩ = some (.int .i64 t) := by simp
  have hx2 : (w.alloc (.cells #[.int .i64 4, .int .i64 t, .int .i64 g, u] 32)).cell? ⟨w.heap.size, 2, none⟩ = some (.int .i64 g) := by simp
  unfold recV
  go_enter Try.func50, Try.ntmps50
  go_wp2
  generalize w.alloc (.cells #[.int .i64 4, .int .i64 t, .int .i64 g, u] 32) = W at *
  have HX1 : Hid (W.drew.cell? ⟨w.heap.size, 1, none⟩ = some (.int .i64 t)) := hx1
  have HX2 : Hid (W.drew.cell? ⟨w.heap.size, 2, none⟩ = some (.int .i64 g)) := hx2
  have hwW : w.heap.size < W.drew.heap.size := World.block_lt_of_cell? W _ hx1
  have hl2 : ([] ++ numL t 2).length ≤ 1000000 := by simp [numL_length]
  go_region_held3 (fun w' => w'.cell? ⟨w.heap.size, 1, none⟩ = some (.int .i64 t) ∧ w'.cell? ⟨w.heap.size, 2, none⟩ = some (.int .i64 g)) (refine ⟨?_, ?_⟩ <;> assumption) (first
    | (go_at_call_of 51 (Value.slice none 0 0); go_must (refine (appendNumber_any (.slice none 0 0) [] t 2 _ (Bs_nil _) (by omega) (by omega) (by simp)).mono ?_; rintro e w1 ⟨v1, rfl, hb1, hg1, hn1⟩; have kx : w1.cell? ⟨w.heap.size, 2, none⟩ = some (.int .i64 g) := hg1.cell HX2.out (fun h => by cases h); have ky : w1.cell? ⟨w.heap.size, 1, none⟩ = some (.int .i64 t) := hg1.cell HX1.out (fun h => by cases h); have d2 : some w.heap.size ≠ v1.ownBlock := ne_newer (fun h => by cases h) hn1 hwW))
    | (go_at_call_of 51 v1; go_must (refine (appendNumber_any v1 ([] ++ numL t 2) g 2 w1 hb1 (by omega) (by omega) hl2).mono ?_; rintro e w2 ⟨v2, rfl, hb2, hg2, hn2⟩; have kx2 : w2.cell? ⟨w.heap.size, 2, none⟩ = some (.int .i64 g) := hg2.cell kx d2; have ky2 : w2.cell? ⟨w.heap.size, 1, none⟩ = some (.int .i64 t) := hg2.cell ky d2)))
  all_goals
    go_wp2
    go_ret
    obtain ⟨r1, r2⟩ := pay_end (l1 := []) (l2 := []) hBW.drew hBW.size hg1 hn1 hg2 hn2
    exact ⟨_, rfl, hb2, r1, r2⟩
theorem payload_6 (t g : Nat) (u : Value) (w : World) :
    Calls Try.prog 50 #[recV 6 t g u] w fun e w' => ∃ v', e = .returned v' ∧ Bs w' v' [] ∧ Below w.heap.size w w' ∧ (∀ g, v'.ownBlock = some g → w.heap.size ≤ g) := by
  unfold recV
  go_enter Try.func50, Try.ntmps50
  go_wp2_with fail
  go_ret
  exact ⟨_, rfl, Bs_nil _, box_below _ _, fun g h => by cases h⟩
theorem payload_any (k t g : Nat) (v : Value) (ws : List WrL) (w : World) (hv : WsAt w v ws) (h1 : 1 ≤ k) (h6 : k ≤ 6) (ht : t ≤ 65535) (hg : g ≤ 65535) (hw : k = 1 ∨ k = 2 ∨ k = 5 → 0 < ws.length ∧ Short ws) :
    Calls Try.prog 50 #[recV k t g v] w fun e w' => ∃ v', e = .returned v' ∧ Bs w' v' (payL k t g ws) ∧ Below w.heap.size w w' ∧ (∀ g, v'.ownBlock = some g → w.heap.size ≤ g) := by
  by_cases hk : k = 1 ∨ k = 2 ∨ k = 5
  · obtain ⟨hp, hsh⟩ := hw hk
    have e : payL k t g ws = numL t 2 ++ wsBytes ws := by unfold payL; rw [if_pos hk]
    rw [e]
    rcases hv with ⟨rfl, rfl⟩ | ⟨b, off, cap, rfl, hc⟩
    · simp at hp
    · refine payload_1 k t g ws b off cap w hc hp hsh ht ?_
      rcases hk with rfl | rfl | rfl
      · exact .inl rfl
      · exact .inr ⟨rfl, .inl rfl⟩
      · exact .inr ⟨rfl, .inr ⟨rfl, rfl⟩⟩
  · by_cases h3 : k = 3
    · subst h3; exact payload_3 t g v w ht
    by_cases h4 : k = 4
    · subst h4; exact payload_4 t g v w ht hg
    · obtain rfl : k = 6 := by omega
      exact payload_6 t g v w
end Go.Proofs.Ytneepapppbchnaa
