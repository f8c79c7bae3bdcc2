/- The walks of key and made. -/
import Derived.Test.YtneepapppbchnaaCrc
import Derived.Test.YtneepapppbchnaaPicks
import Derived.Test.YtneepapppbchnaaKeep2
namespace Go.Proofs.Ytneepapppbchnaa
open Go.RowKit
set_option linter.unusedVariables false

def keysArr : Array Value := #[.string ⟨#[97]⟩, .string ⟨#[98]⟩, .string ⟨#[99]⟩, .string ⟨#[100]⟩, .string ⟨#[97, 98]⟩, .string ⟨#[97, 97]⟩, .string ⟨#[122, 122]⟩, .string ⟨#[49, 50, 51, 52, 53, 54, 55, 56]⟩, .string ⟨#[0]⟩, .string ⟨#[255, 255]⟩]
theorem keysArr_at (p : Nat) (h : p < 10) : ∃ s : ByteArray, keysArr[p]? = some (.string s) ∧ keyB s = true := by
  rcases (by omega : p = 0 ∨ p = 1 ∨ p = 2 ∨ p = 3 ∨ p = 4 ∨ p = 5 ∨ p = 6 ∨ p = 7 ∨ p = 8 ∨ p = 9) with rfl | rfl | rfl | rfl | rfl | rfl | rfl | rfl | rfl | rfl
  all_goals exact ⟨_, rfl, by decide⟩
set_option maxHeartbeats 400000 in
set_option maxRecDepth 100000 in
theorem key_any (c : Int) (w : World) (hc : -9223372036854775808 ≤ c ∧ c ≤ 9223372036854775807) :
    Calls Try.prog 34 #[.int .i64 c] w fun e w' => ∃ s : ByteArray, e = .returned (.string s) ∧ keyB s = true ∧ Below w.heap.size w w' := by
  have h1 := pickOf_nonneg c 10 (by omega)
  have h2 := pickOf_lt c 10 (by omega)
  obtain ⟨p, hp⟩ : ∃ p : Nat, pickOf c 10 = p := ⟨(pickOf c 10).toNat, by omega⟩
  have HP := Hid.out (p := pickOf c 10 = p) hp
  obtain ⟨s, hs, hk⟩ := keysArr_at p (by omega)
  have hcell : (w.alloc (.cells keysArr 9)).cell? ⟨w.heap.size, p, none⟩ = some (.string s) := by
    have h := heap_alloc_new w (.cells keysArr 9)
    simp only [World.cell?, h]
    exact hs
  unfold keysArr at hcell
  have hp10 : p < 10 := by omega
  have HPE : Hid (pickOf c 10 = p) := hp
  clear hs h1 h2 hp HP
  go_enter Try.func34, Try.ntmps34
  go_wp2_with fail
  refine (pick_any c 10 _ hc (by omega) (by omega)).mono ?_
  rintro e w' ⟨rfl, rfl⟩
  rw [HPE.out]
  go_wp2_with fail
  go_ret
  exact ⟨s, rfl, hk, box_below _ _⟩
/-- what made answers: a record, its writes in a row of its own -/
def MadePost (w : World) (e : Ending) (w' : World) : Prop :=
  ∃ (k t g : Nat) (v : Value) (ws : List WrL), e = .returned (.agg #[.int .i64 k, .int .i64 t, .int .i64 g, v]) ∧ recB k t g ws = true ∧ Ws w' v ws ∧ Newer w (.slice none 0 0) v ∧ Below w.heap.size w w'
theorem tdiv_range {c : Int} (h : -9223372036854775808 ≤ c ∧ c ≤ 9223372036854775807) (d : Int) (hd : d = 6 ∨ d = 7 ∨ d = 11) : -9223372036854775808 ≤ c.tdiv d ∧ c.tdiv d ≤ 9223372036854775807 := by
  have h1 := Int.natAbs_tdiv c d
  have h2 : (c.tdiv d).natAbs ≤ c.natAbs / 6 := by
    rw [h1]
    rcases hd with rfl | rfl | rfl
    · exact Nat.le_refl _
    · exact Nat.div_le_div_left (by decide) (by decide)
    · exact Nat.div_le_div_left (by decide) (by decide)
  omega
theorem keyB_size {s : ByteArray} (h : keyB s = true) : 1 ≤ s.size ∧ s.size ≤ 8 := by
  unfold keyB at h
  simpa using h
theorem wr_ok (key val : ByteArray) (hk : keyB key = true) (hv : val.size ≤ 16) : wrB ⟨key, false, val⟩ = true := wrB_yes ⟨by simp, hk, hv⟩
theorem less_ab : Op.bytesLess (ByteArray.toList ⟨#[97]⟩) (ByteArray.toList ⟨#[98]⟩) = true := by rw [ByteArray.toList_eq, ByteArray.toList_eq]; decide
theorem less_b8 : Op.bytesLess (ByteArray.toList ⟨#[98]⟩) (ByteArray.toList ⟨#[98, 49, 50, 51, 52, 53, 54, 55]⟩) = true := by rw [ByteArray.toList_eq, ByteArray.toList_eq]; decide
theorem ws_two (val : ByteArray) (hv : val.size ≤ 16) : wsB [⟨⟨#[97]⟩, false, val⟩, ⟨⟨#[98]⟩, true, ⟨#[]⟩⟩] 6 = true := by
  rw [wsB_iff]
  refine ⟨by simp, by simp, ?_⟩
  intro i hi
  rcases (by simp at hi; omega : i = 0 ∨ i = 1) with rfl | rfl
  · intro _; exact ⟨wr_ok _ _ (by decide) hv, fun h => absurd h (by omega)⟩
  · intro _; exact ⟨show wrB ⟨⟨#[98]⟩, true, ⟨#[]⟩⟩ = true by decide, fun _ => less_ab⟩
theorem ws_three (val : ByteArray) (hv : val.size ≤ 16) : wsB [⟨⟨#[97]⟩, false, val⟩, ⟨⟨#[98]⟩, true, ⟨#[]⟩⟩, ⟨⟨#[98, 49, 50, 51, 52, 53, 54, 55]⟩, false, val⟩] 6 = true := by
  rw [wsB_iff]
  refine ⟨by simp, by simp, ?_⟩
  intro i hi
  rcases (by simp at hi; omega : i = 0 ∨ i = 1 ∨ i = 2) with rfl | rfl | rfl
  · intro _; exact ⟨wr_ok _ _ (by decide) hv, fun h => absurd h (by omega)⟩
  · intro _; exact ⟨show wrB ⟨⟨#[98]⟩, true, ⟨#[]⟩⟩ = true by decide, fun _ => less_ab⟩
  · intro _; exact ⟨wr_ok _ _ (by decide) hv, fun _ => less_b8⟩
theorem rec_many (k : Nat) (hk : k = 1 ∨ k = 2) (t : Nat) (ht : 1 ≤ t ∧ t ≤ 65535) (ws : List WrL) (h : wsB ws 6 = true) : recB k t 0 ws = true := by
  unfold recB
  rw [if_pos (by omega), timeB_yes (by omega), h]; rfl
theorem rec_three (t : Nat) (ht : 1 ≤ t ∧ t ≤ 65535) : recB 3 t 0 [] = true := by
  unfold recB
  rw [if_neg (by omega), if_pos rfl, timeB_yes (by omega)]; rfl
theorem rec_four (t g : Nat) (ht : 1 ≤ t ∧ t ≤ 65535) (hg : 1 ≤ g ∧ g ≤ 65535) : recB 4 t g [] = true := by
  unfold recB
  rw [if_neg (by omega), if_neg (by omega), if_pos rfl, timeB_yes (t := (t : Int)) (by omega), timeB_yes (by omega)]; simp [noneB]
theorem rec_five (t : Nat) (ht : 1 ≤ t ∧ t ≤ 65535) (key val : ByteArray) (hk : keyB key = true) (hv : val.size ≤ 16) : recB 5 t 0 [⟨key, false, val⟩] = true := by
  unfold recB
  rw [if_neg (by omega), if_neg (by omega), if_neg (by omega), if_pos rfl, timeB_yes (by omega)]
  simp [itemB, wr_ok key val hk hv]
theorem rec_six : recB 6 0 0 [] = true := by decide
theorem wsRow (w : World) (rows : List WrL) (hn : rows.length ≤ 100) : Ws (w.alloc (.cells (cellsOf rows).toArray 65)) (.slice (some ⟨w.heap.size, 0, none⟩) rows.length rows.length) rows :=
  ⟨cellsOf_length rows, .inr ⟨w.heap.size, rows.length, _, rfl, Nat.zero_le _, heap_alloc_new w _, Nat.le_refl _, by unfold maxLen; omega, by simp [cellsOf_length], by simp [← cellsOf_length]⟩⟩
theorem wsRow' (X : World) (g : Nat) (hg : X.heap.size = g) (rows : List WrL) (hn : rows.length ≤ 100) : Ws (X.alloc (.cells (cellsOf rows).toArray 65)) (.slice (some ⟨g, 0, none⟩) rows.length rows.length) rows := by
  subst hg; exact wsRow X rows hn
theorem made_start (w : World) (k tn : Nat) : ∃ W, W = (w.alloc (.cells #[.int .i64 0, .int .i64 0, .int .i64 0, .slice none 0 0] 32)).alloc (.cells #[.int .i64 k, .int .i64 tn, .int .i64 0, .slice none 0 0] 32) ∧
    RB W w.heap.size 0 0 0 (.slice none 0 0) ∧ RB W (w.heap.size + 1) k tn 0 (.slice none 0 0) ∧ Below w.heap.size w W ∧ W.heap.size = w.heap.size + 2 := by
  refine ⟨_, rfl, ?_, ?_, ?_, by simp⟩
  · refine (RB_new w 0 0 0 (.slice none 0 0)).kept ?_
    rw [Below.heap_alloc _ _ _ (by simp)]
  · have := RB_new (w.alloc (.cells #[.int .i64 0, .int .i64 0, .int .i64 0, .slice none 0 0] 32)) k tn 0 (.slice none 0 0)
    simpa only [World.size_alloc] using this
  · exact (box_below w _).alloc (by simp) _
theorem made_start2 (w : World) (k tn : Nat) (val : ByteArray) : ∃ W, W = ((w.alloc (.cells #[.int .i64 0, .int .i64 0, .int .i64 0, .slice none 0 0] 32)).alloc (.cells #[.int .i64 k, .int .i64 tn, .int .i64 0, .slice (some ⟨w.heap.size + 1 + 1, 0, none⟩) 2 2] 32)).alloc (.cells #[.string ⟨#[97]⟩, .bool false, .string val, .string ⟨#[98]⟩, .bool true, .string ⟨#[]⟩] 65) ∧
    RB W w.heap.size 0 0 0 (.slice none 0 0) ∧ RB W (w.heap.size + 1) k tn 0 (.slice (some ⟨w.heap.size + 1 + 1, 0, none⟩) 2 2) ∧ Ws W (.slice (some ⟨w.heap.size + 1 + 1, 0, none⟩) 2 2) [⟨⟨#[97]⟩, false, val⟩, ⟨⟨#[98]⟩, true, ⟨#[]⟩⟩] ∧ Below w.heap.size w W ∧ W.heap.size = w.heap.size + 3 := by
  refine ⟨_, rfl, ?_, ?_, ?_, ?_, by simp⟩
  · refine (RB_new w 0 0 0 (.slice none 0 0)).kept ?_
    rw [Below.heap_alloc _ _ _ (by simp; omega), Below.heap_alloc _ _ _ (by simp)]
  · have := RB_new (w.alloc (.cells #[.int .i64 0, .int .i64 0, .int .i64 0, .slice none 0 0] 32)) k tn 0 (.slice (some ⟨w.heap.size + 1 + 1, 0, none⟩) 2 2)
    simp only [World.size_alloc] at this
    refine this.kept ?_
    rw [Below.heap_alloc _ _ _ (by simp)]
  · exact wsRow' _ _ (by simp) [⟨⟨#[97]⟩, false, val⟩, ⟨⟨#[98]⟩, true, ⟨#[]⟩⟩] (by simp)
  · exact ((box_below w _).alloc (by simp) _).alloc (by simp; omega) _
theorem made_fin {w wz : World} {v : Value} {ws : List WrL} (k t : Nat) (hA : RB wz w.heap.size 0 0 0 (.slice none 0 0)) (hws : Ws wz v ws) (hx : ∀ q, v.ownBlock = some q → w.heap.size + 2 ≤ q) (hb : Below w.heap.size w wz) :
    Ws (((((wz.setCell ⟨w.heap.size + 1, 3, none⟩ v).setCell ⟨w.heap.size, 0, none⟩ (.int .i64 k)).setCell ⟨w.heap.size, 1, none⟩ (.int .i64 t)).setCell ⟨w.heap.size, 2, none⟩ (.int .i64 0)).setCell ⟨w.heap.size, 3, none⟩ v) v ws ∧ Newer w (.slice none 0 0) v ∧
    Below w.heap.size w (((((wz.setCell ⟨w.heap.size + 1, 3, none⟩ v).setCell ⟨w.heap.size, 0, none⟩ (.int .i64 k)).setCell ⟨w.heap.size, 1, none⟩ (.int .i64 t)).setCell ⟨w.heap.size, 2, none⟩ (.int .i64 0)).setCell ⟨w.heap.size, 3, none⟩ v) ∧
    RB (((((wz.setCell ⟨w.heap.size + 1, 3, none⟩ v).setCell ⟨w.heap.size, 0, none⟩ (.int .i64 k)).setCell ⟨w.heap.size, 1, none⟩ (.int .i64 t)).setCell ⟨w.heap.size, 2, none⟩ (.int .i64 0)).setCell ⟨w.heap.size, 3, none⟩ v) w.heap.size k t 0 v := by
  refine ⟨Ws_set4 (hws.kept fun q hq => Below.heap_setCell _ _ _ _ (by have := hx q hq; show q ≠ w.heap.size + 1; omega)) (fun q hq => by have := hx q hq; omega) _ _ _ _, ?_, end4 (hb.setCell (show w.heap.size ≤ w.heap.size + 1 by omega) _) (Nat.le_refl _) _ _ _ _, ?_⟩
  · cases ho : v.ownBlock with
    | none => exact .inl ho
    | some q => exact .inr ⟨q, ho, by have := hx q ho; omega⟩
  · exact ((((hA.set_other (o := 3) (u := v) (show w.heap.size ≠ w.heap.size + 1 by omega)).set0 k).set1 t).set2 0).set3 v
theorem made_fin2 {w wz : World} {v : Value} {ws : List WrL} (k t : Nat) (hA : RB wz w.heap.size 0 0 0 (.slice none 0 0)) (hws : Ws wz v ws) (hx : ∀ q, v.ownBlock = some q → w.heap.size + 2 ≤ q) (hb : Below w.heap.size w wz) :
    Ws ((((wz.setCell ⟨w.heap.size, 0, none⟩ (.int .i64 k)).setCell ⟨w.heap.size, 1, none⟩ (.int .i64 t)).setCell ⟨w.heap.size, 2, none⟩ (.int .i64 0)).setCell ⟨w.heap.size, 3, none⟩ v) v ws ∧ Newer w (.slice none 0 0) v ∧
    Below w.heap.size w ((((wz.setCell ⟨w.heap.size, 0, none⟩ (.int .i64 k)).setCell ⟨w.heap.size, 1, none⟩ (.int .i64 t)).setCell ⟨w.heap.size, 2, none⟩ (.int .i64 0)).setCell ⟨w.heap.size, 3, none⟩ v) ∧
    RB ((((wz.setCell ⟨w.heap.size, 0, none⟩ (.int .i64 k)).setCell ⟨w.heap.size, 1, none⟩ (.int .i64 t)).setCell ⟨w.heap.size, 2, none⟩ (.int .i64 0)).setCell ⟨w.heap.size, 3, none⟩ v) w.heap.size k t 0 v := by
  refine ⟨Ws_set4 hws (fun q hq => by have := hx q hq; omega) _ _ _ _, ?_, end4 hb (Nat.le_refl _) _ _ _ _, ?_⟩
  · cases ho : v.ownBlock with
    | none => exact .inl ho
    | some q => exact .inr ⟨q, ho, by have := hx q ho; omega⟩
  · exact (((hA.set0 k).set1 t).set2 0).set3 v
set_option maxHeartbeats 2000000 in
set_option maxRecDepth 100000 in
theorem made_no_3 (raw : Int) (i nv cap : Nat) (a : Option Addr) (w : World) (hr : -9223372036854775808 ≤ raw ∧ raw ≤ 9223372036854775807) (hi : ¬ i < nv) (hi8 : i ≤ 100) (hn : nv ≤ 140737488355328) (hk : 1 + pickOf raw 6 = 3) :
    Calls Try.prog 15 #[.int .i64 raw, .int .i64 i, .slice a nv cap] w fun e w' => MadePost w e w' := by
  obtain ⟨i0, hi0, hz0, hz1, hz2⟩ := info_parts Try.info65
  have p1 := pickOf_nonneg raw 6 (by omega)
  have p2 := pickOf_lt raw 6 (by omega)
  have t1 := pickOf_nonneg (raw.tdiv 6) 65535 (by omega)
  have t2 := pickOf_lt (raw.tdiv 6) 65535 (by omega)
  obtain ⟨tn, htn, HTN⟩ : ∃ tn : Nat, (1 ≤ tn ∧ tn ≤ 65535) ∧ Hid (1 + pickOf (raw.tdiv 6) 65535 = (tn : Int)) := ⟨(1 + pickOf (raw.tdiv 6) 65535).toNat, by omega, by show _ = _; omega⟩
  have hr6 := tdiv_range hr 6 (by omega)
  have hr7 := tdiv_range hr 7 (by omega)
  have hr11 := tdiv_range hr 11 (by omega)
  have HK : Hid (1 + pickOf raw 6 = 3) := hk
  clear hk
  go_enter Try.func15, Try.ntmps15
  go_wp2_with fail
  refine (pick_any raw 6 _ hr (by omega) (by omega)).mono ?_
  rintro e w' ⟨rfl, rfl⟩
  go_wp2_with fail
  rw [HK.out]
  refine (pick_any (raw.tdiv 6) 65535 _ hr6 (by omega) (by omega)).mono ?_
  rintro e w' ⟨rfl, rfl⟩
  go_wp2_with fail
  rw [HTN.out]
  exact bodyPost_ret (v := .agg #[.int .i64 3, .int .i64 (tn : Nat), .int .i64 0, .slice none 0 0]) (by simp [results, Try.results15, go_sem]) rfl ⟨3, tn, 0, _, [], rfl, rec_three tn htn, Ws_nil _, Newer.refl _ _, (box_below w _).alloc (by simp) _⟩
set_option maxHeartbeats 2000000 in
set_option maxRecDepth 100000 in
theorem made_no_4 (raw : Int) (i nv cap : Nat) (a : Option Addr) (w : World) (hr : -9223372036854775808 ≤ raw ∧ raw ≤ 9223372036854775807) (hi : ¬ i < nv) (hi8 : i ≤ 100) (hn : nv ≤ 140737488355328) (hk : 1 + pickOf raw 6 = 4) :
    Calls Try.prog 15 #[.int .i64 raw, .int .i64 i, .slice a nv cap] w fun e w' => MadePost w e w' := by
  obtain ⟨i0, hi0, hz0, hz1, hz2⟩ := info_parts Try.info65
  have p1 := pickOf_nonneg raw 6 (by omega)
  have p2 := pickOf_lt raw 6 (by omega)
  have t1 := pickOf_nonneg (raw.tdiv 6) 65535 (by omega)
  have t2 := pickOf_lt (raw.tdiv 6) 65535 (by omega)
  obtain ⟨tn, htn, HTN⟩ : ∃ tn : Nat, (1 ≤ tn ∧ tn ≤ 65535) ∧ Hid (1 + pickOf (raw.tdiv 6) 65535 = (tn : Int)) := ⟨(1 + pickOf (raw.tdiv 6) 65535).toNat, by omega, by show _ = _; omega⟩
  have hr6 := tdiv_range hr 6 (by omega)
  have hr7 := tdiv_range hr 7 (by omega)
  have hr11 := tdiv_range hr 11 (by omega)
  have HK : Hid (1 + pickOf raw 6 = 4) := hk
  clear hk
  go_enter Try.func15, Try.ntmps15
  go_wp2_with fail
  refine (pick_any raw 6 _ hr (by omega) (by omega)).mono ?_
  rintro e w' ⟨rfl, rfl⟩
  go_wp2_with fail
  rw [HK.out]
  refine (pick_any (raw.tdiv 6) 65535 _ hr6 (by omega) (by omega)).mono ?_
  rintro e w' ⟨rfl, rfl⟩
  go_wp2_with fail
  rw [HTN.out]
  have g1 := pickOf_nonneg (raw.tdiv 11) 65535 (by omega)
  have g2 := pickOf_lt (raw.tdiv 11) 65535 (by omega)
  obtain ⟨gn, hgn, HGN⟩ : ∃ gn : Nat, (1 ≤ gn ∧ gn ≤ 65535) ∧ Hid (1 + pickOf (raw.tdiv 11) 65535 = (gn : Int)) := ⟨(1 + pickOf (raw.tdiv 11) 65535).toNat, by omega, by show _ = _; omega⟩
  refine (pick_any (raw.tdiv 11) 65535 _ hr11 (by omega) (by omega)).mono ?_
  rintro e w' ⟨rfl, rfl⟩
  go_wp2_with fail
  rw [HGN.out]
  exact bodyPost_ret (v := .agg #[.int .i64 4, .int .i64 (tn : Nat), .int .i64 (gn : Nat), .slice none 0 0]) (by simp [results, Try.results15, go_sem]) rfl ⟨4, tn, gn, _, [], rfl, rec_four tn gn htn hgn, Ws_nil _, Newer.refl _ _, (box_below w _).alloc (by simp) _⟩
set_option maxHeartbeats 2000000 in
set_option maxRecDepth 100000 in
theorem made_no_6 (raw : Int) (i nv cap : Nat) (a : Option Addr) (w : World) (hr : -9223372036854775808 ≤ raw ∧ raw ≤ 9223372036854775807) (hi : ¬ i < nv) (hi8 : i ≤ 100) (hn : nv ≤ 140737488355328) (hk : 1 + pickOf raw 6 = 6) :
    Calls Try.prog 15 #[.int .i64 raw, .int .i64 i, .slice a nv cap] w fun e w' => MadePost w e w' := by
  obtain ⟨i0, hi0, hz0, hz1, hz2⟩ := info_parts Try.info65
  have p1 := pickOf_nonneg raw 6 (by omega)
  have p2 := pickOf_lt raw 6 (by omega)
  have t1 := pickOf_nonneg (raw.tdiv 6) 65535 (by omega)
  have t2 := pickOf_lt (raw.tdiv 6) 65535 (by omega)
  obtain ⟨tn, htn, HTN⟩ : ∃ tn : Nat, (1 ≤ tn ∧ tn ≤ 65535) ∧ Hid (1 + pickOf (raw.tdiv 6) 65535 = (tn : Int)) := ⟨(1 + pickOf (raw.tdiv 6) 65535).toNat, by omega, by show _ = _; omega⟩
  have hr6 := tdiv_range hr 6 (by omega)
  have hr7 := tdiv_range hr 7 (by omega)
  have hr11 := tdiv_range hr 11 (by omega)
  have HK : Hid (1 + pickOf raw 6 = 6) := hk
  clear hk
  go_enter Try.func15, Try.ntmps15
  go_wp2_with fail
  refine (pick_any raw 6 _ hr (by omega) (by omega)).mono ?_
  rintro e w' ⟨rfl, rfl⟩
  go_wp2_with fail
  rw [HK.out]
  refine (pick_any (raw.tdiv 6) 65535 _ hr6 (by omega) (by omega)).mono ?_
  rintro e w' ⟨rfl, rfl⟩
  go_wp2_with fail
  exact bodyPost_ret (v := .agg #[.int .i64 6, .int .i64 0, .int .i64 0, .slice none 0 0]) (by simp [results, Try.results15, go_sem]) rfl ⟨6, 0, 0, _, [], rfl, rec_six, Ws_nil _, Newer.refl _ _, (box_below w _).alloc (by simp) _⟩
set_option maxHeartbeats 2000000 in
set_option maxRecDepth 100000 in
theorem made_no_5 (raw : Int) (i nv cap : Nat) (a : Option Addr) (w : World) (hr : -9223372036854775808 ≤ raw ∧ raw ≤ 9223372036854775807) (hi : ¬ i < nv) (hi8 : i ≤ 100) (hn : nv ≤ 140737488355328) (hk : 1 + pickOf raw 6 = 5) :
    Calls Try.prog 15 #[.int .i64 raw, .int .i64 i, .slice a nv cap] w fun e w' => MadePost w e w' := by
  obtain ⟨i0, hi0, hz0, hz1, hz2⟩ := info_parts Try.info65
  have p1 := pickOf_nonneg raw 6 (by omega)
  have p2 := pickOf_lt raw 6 (by omega)
  have t1 := pickOf_nonneg (raw.tdiv 6) 65535 (by omega)
  have t2 := pickOf_lt (raw.tdiv 6) 65535 (by omega)
  obtain ⟨tn, htn, HTN⟩ : ∃ tn : Nat, (1 ≤ tn ∧ tn ≤ 65535) ∧ Hid (1 + pickOf (raw.tdiv 6) 65535 = (tn : Int)) := ⟨(1 + pickOf (raw.tdiv 6) 65535).toNat, by omega, by show _ = _; omega⟩
  have hr6 := tdiv_range hr 6 (by omega)
  have hr7 := tdiv_range hr 7 (by omega)
  have hr11 := tdiv_range hr 11 (by omega)
  have HK : Hid (1 + pickOf raw 6 = 5) := hk
  clear hk
  go_enter Try.func15, Try.ntmps15
  go_wp2_with fail
  refine (pick_any raw 6 _ hr (by omega) (by omega)).mono ?_
  rintro e w' ⟨rfl, rfl⟩
  go_wp2_with fail
  rw [HK.out]
  refine (pick_any (raw.tdiv 6) 65535 _ hr6 (by omega) (by omega)).mono ?_
  rintro e w' ⟨rfl, rfl⟩
  go_wp2_with fail
  rw [HTN.out]
  obtain ⟨W, HW, hA, hR, hBW, hsW⟩ := made_start w 5 tn
  rw [← show W = (w.alloc (.cells #[.int .i64 0, .int .i64 0, .int .i64 0, .slice none 0 0] 32)).alloc (.cells #[.int .i64 5, .int .i64 tn, .int .i64 0, .slice none 0 0] 32) from HW]
  clear HW
  refine (key_any (raw.tdiv 7) _ hr7).mono ?_
  rintro e w1 ⟨ky, rfl, hky, hb1⟩
  have hA1 := hA.kept (hb1.block _ hA.lt)
  have hR1 := hR.kept (hb1.block _ hR.lt)
  have hB1 : Below w.heap.size w w1 := hBW.trans (hb1.mono (by omega))
  have hs1 : W.heap.size ≤ w1.heap.size := hb1.size
  obtain ⟨a0, a1, a2, a3⟩ := hR1.cells
  have f3 := hR1.frozen 3
  obtain ⟨e0, e1, e2, e3⟩ := hA1.cells
  have k0 := hA1.frozen 0
  have k1 := hA1.frozen 1
  have k2 := hA1.frozen 2
  have k3 := hA1.frozen 3
  have hlA := hA1.lt
  have hlR := hR1.lt
  have HX := fun (v : Value) (o : Obj) => (RB_set4 (hA1.set_other (o := 3) (u := v) (show w.heap.size ≠ w.heap.size + 1 by omega)) 5 tn 0 v o).cells
  have HFI : Hid (∀ v : Value, Below w.heap.size w ((((((w1.setCell ⟨w.heap.size + 1, 3, none⟩ v).setCell ⟨w.heap.size, 0, none⟩ (.int .i64 5)).setCell ⟨w.heap.size, 1, none⟩ (.int .i64 tn)).setCell ⟨w.heap.size, 2, none⟩ (.int .i64 0)).setCell ⟨w.heap.size, 3, none⟩ v))) := fun v => end4 (hB1.setCell (show w.heap.size ≤ w.heap.size + 1 by omega) _) (Nat.le_refl _) _ _ _ _
  have HHX := hide HX
  have hsz : w.heap.size ≤ w1.heap.size := by omega
  clear HX
  go_wp2_with fail
  have HX := HHX.out
  refine bodyPost_ret (v := .agg #[.int .i64 5, .int .i64 (tn : Nat), .int .i64 0, .slice (some ⟨w1.heap.size, 0, none⟩) 1 1]) (by simp [results, Try.results15, go_sem, (HX _ _).1, (HX _ _).2.1, (HX _ _).2.2.1, (HX _ _).2.2.2]) rfl ⟨5, tn, 0, _, [⟨ky, false, ⟨#[]⟩⟩], rfl, rec_five tn htn ky _ hky (by decide), wsRow' _ _ (by simp) [⟨ky, false, ⟨#[]⟩⟩] (by simp), .inr ⟨_, rfl, hsz⟩, (HFI.out _).alloc (by simp; exact hsz) _⟩
set_option maxHeartbeats 2000000 in
set_option maxRecDepth 100000 in
theorem made_no_1 (raw : Int) (i nv cap : Nat) (a : Option Addr) (w : World) (hr : -9223372036854775808 ≤ raw ∧ raw ≤ 9223372036854775807) (hi : ¬ i < nv) (hi8 : i ≤ 100) (hn : nv ≤ 140737488355328) (hk : 1 + pickOf raw 6 = 1) :
    Calls Try.prog 15 #[.int .i64 raw, .int .i64 i, .slice a nv cap] w fun e w' => MadePost w e w' := by
  obtain ⟨i0, hi0, hz0, hz1, hz2⟩ := info_parts Try.info65
  have p1 := pickOf_nonneg raw 6 (by omega)
  have p2 := pickOf_lt raw 6 (by omega)
  have t1 := pickOf_nonneg (raw.tdiv 6) 65535 (by omega)
  have t2 := pickOf_lt (raw.tdiv 6) 65535 (by omega)
  obtain ⟨tn, htn, HTN⟩ : ∃ tn : Nat, (1 ≤ tn ∧ tn ≤ 65535) ∧ Hid (1 + pickOf (raw.tdiv 6) 65535 = (tn : Int)) := ⟨(1 + pickOf (raw.tdiv 6) 65535).toNat, by omega, by show _ = _; omega⟩
  have hr6 := tdiv_range hr 6 (by omega)
  have hr7 := tdiv_range hr 7 (by omega)
  have hr11 := tdiv_range hr 11 (by omega)
  have HK : Hid (1 + pickOf raw 6 = 1) := hk
  clear hk
  go_enter Try.func15, Try.ntmps15
  go_wp2_with fail
  refine (pick_any raw 6 _ hr (by omega) (by omega)).mono ?_
  rintro e w' ⟨rfl, rfl⟩
  go_wp2_with fail
  rw [HK.out]
  refine (pick_any (raw.tdiv 6) 65535 _ hr6 (by omega) (by omega)).mono ?_
  rintro e w' ⟨rfl, rfl⟩
  go_wp2_with fail
  rw [HTN.out]
  obtain ⟨W, HW, hA, hR, hWs, hBW, hsW⟩ := made_start2 w 1 tn ⟨#[]⟩
  rw [← show W = ((w.alloc (.cells #[.int .i64 0, .int .i64 0, .int .i64 0, .slice none 0 0] 32)).alloc (.cells #[.int .i64 1, .int .i64 tn, .int .i64 0, .slice (some ⟨w.heap.size + 1 + 1, 0, none⟩) 2 2] 32)).alloc (.cells #[.string ⟨#[97]⟩, .bool false, .string ⟨#[]⟩, .string ⟨#[98]⟩, .bool true, .string ⟨#[]⟩] 65) from HW]
  have hsz : w.heap.size + 3 ≤ W.heap.size := by omega
  clear HW hsW
  have v1 := pickOf_nonneg raw 5 (by omega)
  have v2 := pickOf_lt raw 5 (by omega)
  obtain ⟨a0, a1, a2, a3⟩ := hR.cells
  have f3 := hR.frozen 3
  obtain ⟨e0, e1, e2, e3⟩ := hA.cells
  have k0 := hA.frozen 0
  have k1 := hA.frozen 1
  have k2 := hA.frozen 2
  have k3 := hA.frozen 3
  have hlA := hA.lt
  have hlR := hR.lt
  refine (pick_any raw 5 _ hr (by omega) (by omega)).mono ?_
  rintro e w' ⟨rfl, rfl⟩
  by_cases h5 : pickOf raw 5 = 0
  · rw [h5]
    clear h5
    have l1 : 2 + 1 ≤ maxLen := by decide
    have hWs' : w'.ownsRow 0 65 3 (.slice (some ⟨w.heap.size + 1 + 1, 0, none⟩) 2 2) 2 (cellsOf [⟨⟨#[97]⟩, false, ⟨#[]⟩⟩, ⟨⟨#[98]⟩, true, ⟨#[]⟩⟩]) := hWs
    go_wp2_with (at_builtin; go_must (refine wpList_append_src _ rfl _ _ 30 30 rfl 65 i0 _ 3 40 Try.underlying30 hi0 hz0 hz1 hz2 rfl (by decide) _ _ _ rfl (World.ownsRow.alloc hWs' _) _ 1 _ rfl (src_alloc w' 3 _ _ _ Try.underlying30 1 _ #[.string ⟨#[98, 49, 50, 51, 52, 53, 54, 55]⟩, .bool false, .string ⟨#[]⟩] rfl rfl) (fun _ => by decide) l1 (by decide) ?_; intro u' w2 hown hgr hnw hnn; obtain ⟨ua, uc, hu⟩ := own_form hown; subst hu; have hR2 := hR.kept ((hgr.block (w.heap.size + 1) (Nat.lt_of_lt_of_le hlR (by simp)) (fun e => by have := Option.some.inj (show some (w.heap.size + 1) = some (w.heap.size + 1 + 1) from e); omega)).trans (Below.heap_alloc _ _ _ hlR)); have hA2 := hA.kept ((hgr.block w.heap.size (Nat.lt_of_lt_of_le hlA (by simp)) (fun e => by have := Option.some.inj (show some w.heap.size = some (w.heap.size + 1 + 1) from e); omega)).trans (Below.heap_alloc _ _ _ hlA)); obtain ⟨r0, r1, r2, r3⟩ := hR2.cells; have t3 := hR2.frozen 3; obtain ⟨b0, b1, b2, b3⟩ := hA2.cells; have m0 := hA2.frozen 0; have m1 := hA2.frozen 1; have m2 := hA2.frozen 2; have m3 := hA2.frozen 3))
    have hB2 : Below w.heap.size w w2 := (hBW.alloc (by omega) _).grown hgr (by simp; omega) (fun x hx => by have := Option.some.inj (show some (w.heap.size + 1 + 1) = some x from hx); omega)
    have hux : ∀ q, (Value.slice ua (2 + 1) uc).ownBlock = some q → w.heap.size + 2 ≤ q := by
      intro q hq
      rcases hnw with e | ⟨g, e, hg⟩
      · have := Option.some.inj (show some (w.heap.size + 1 + 1) = some q from e.symm.trans hq); omega
      · have := Option.some.inj (e.symm.trans hq); simp at hg; omega
    have hws2 : Ws w2 (.slice ua (2 + 1) uc) [⟨⟨#[97]⟩, false, ⟨#[]⟩⟩, ⟨⟨#[98]⟩, true, ⟨#[]⟩⟩, ⟨⟨#[98, 49, 50, 51, 52, 53, 54, 55]⟩, false, ⟨#[]⟩⟩] := hown
    obtain ⟨E1, E2, E3, E4⟩ := made_fin 1 tn hA2 hws2 hux hB2
    exact bodyPost_ret (v := .agg #[.int .i64 1, .int .i64 (tn : Nat), .int .i64 0, .slice ua (2 + 1) uc]) (by simp [results, Try.results15, go_sem, b0, b1, b2, b3]) rfl ⟨1, tn, 0, _, _, rfl, rec_many 1 (by omega) tn htn _ (ws_three _ (by decide)), E1, E2, E3⟩
  · have h5b : (pickOf raw 5 == 0) = false := beq_eq_false_iff_ne.2 h5
    clear h5
    have hux : ∀ q, (Value.slice (some ⟨w.heap.size + 1 + 1, 0, none⟩) 2 2).ownBlock = some q → w.heap.size + 2 ≤ q := fun q hq => by have := Option.some.inj (show some (w.heap.size + 1 + 1) = some q from hq); omega
    have HF := hide (made_fin2 1 tn hA hWs hux hBW)
    go_wp2_with fail
    obtain ⟨E1, E2, E3, E4⟩ := HF.out
    exact bodyPost_ret (v := .agg #[.int .i64 1, .int .i64 (tn : Nat), .int .i64 0, .slice (some ⟨w.heap.size + 1 + 1, 0, none⟩) 2 2]) (by simp [results, Try.results15, go_sem, e0, e1, e2, e3]) rfl ⟨1, tn, 0, _, _, rfl, rec_many 1 (by omega) tn htn _ (ws_two _ (by decide)), E1, E2, E3⟩
set_option maxHeartbeats 2000000 in
set_option maxRecDepth 100000 in
theorem made_no_2 (raw : Int) (i nv cap : Nat) (a : Option Addr) (w : World) (hr : -9223372036854775808 ≤ raw ∧ raw ≤ 9223372036854775807) (hi : ¬ i < nv) (hi8 : i ≤ 100) (hn : nv ≤ 140737488355328) (hk : 1 + pickOf raw 6 = 2) :
    Calls Try.prog 15 #[.int .i64 raw, .int .i64 i, .slice a nv cap] w fun e w' => MadePost w e w' := by
  obtain ⟨i0, hi0, hz0, hz1, hz2⟩ := info_parts Try.info65
  have p1 := pickOf_nonneg raw 6 (by omega)
  have p2 := pickOf_lt raw 6 (by omega)
  have t1 := pickOf_nonneg (raw.tdiv 6) 65535 (by omega)
  have t2 := pickOf_lt (raw.tdiv 6) 65535 (by omega)
  obtain ⟨tn, htn, HTN⟩ : ∃ tn : Nat, (1 ≤ tn ∧ tn ≤ 65535) ∧ Hid (1 + pickOf (raw.tdiv 6) 65535 = (tn : Int)) := ⟨(1 + pickOf (raw.tdiv 6) 65535).toNat, by omega, by show _ = _; omega⟩
  have hr6 := tdiv_range hr 6 (by omega)
  have hr7 := tdiv_range hr 7 (by omega)
  have hr11 := tdiv_range hr 11 (by omega)
  have HK : Hid (1 + pickOf raw 6 = 2) := hk
  clear hk
  go_enter Try.func15, Try.ntmps15
  go_wp2_with fail
  refine (pick_any raw 6 _ hr (by omega) (by omega)).mono ?_
  rintro e w' ⟨rfl, rfl⟩
  go_wp2_with fail
  rw [HK.out]
  refine (pick_any (raw.tdiv 6) 65535 _ hr6 (by omega) (by omega)).mono ?_
  rintro e w' ⟨rfl, rfl⟩
  go_wp2_with fail
  rw [HTN.out]
  obtain ⟨W, HW, hA, hR, hWs, hBW, hsW⟩ := made_start2 w 2 tn ⟨#[]⟩
  rw [← show W = ((w.alloc (.cells #[.int .i64 0, .int .i64 0, .int .i64 0, .slice none 0 0] 32)).alloc (.cells #[.int .i64 2, .int .i64 tn, .int .i64 0, .slice (some ⟨w.heap.size + 1 + 1, 0, none⟩) 2 2] 32)).alloc (.cells #[.string ⟨#[97]⟩, .bool false, .string ⟨#[]⟩, .string ⟨#[98]⟩, .bool true, .string ⟨#[]⟩] 65) from HW]
  have hsz : w.heap.size + 3 ≤ W.heap.size := by omega
  clear HW hsW
  have v1 := pickOf_nonneg raw 5 (by omega)
  have v2 := pickOf_lt raw 5 (by omega)
  obtain ⟨a0, a1, a2, a3⟩ := hR.cells
  have f3 := hR.frozen 3
  obtain ⟨e0, e1, e2, e3⟩ := hA.cells
  have k0 := hA.frozen 0
  have k1 := hA.frozen 1
  have k2 := hA.frozen 2
  have k3 := hA.frozen 3
  have hlA := hA.lt
  have hlR := hR.lt
  refine (pick_any raw 5 _ hr (by omega) (by omega)).mono ?_
  rintro e w' ⟨rfl, rfl⟩
  by_cases h5 : pickOf raw 5 = 0
  · rw [h5]
    clear h5
    have l1 : 2 + 1 ≤ maxLen := by decide
    have hWs' : w'.ownsRow 0 65 3 (.slice (some ⟨w.heap.size + 1 + 1, 0, none⟩) 2 2) 2 (cellsOf [⟨⟨#[97]⟩, false, ⟨#[]⟩⟩, ⟨⟨#[98]⟩, true, ⟨#[]⟩⟩]) := hWs
    go_wp2_with (at_builtin; go_must (refine wpList_append_src _ rfl _ _ 30 30 rfl 65 i0 _ 3 40 Try.underlying30 hi0 hz0 hz1 hz2 rfl (by decide) _ _ _ rfl (World.ownsRow.alloc hWs' _) _ 1 _ rfl (src_alloc w' 3 _ _ _ Try.underlying30 1 _ #[.string ⟨#[98, 49, 50, 51, 52, 53, 54, 55]⟩, .bool false, .string ⟨#[]⟩] rfl rfl) (fun _ => by decide) l1 (by decide) ?_; intro u' w2 hown hgr hnw hnn; obtain ⟨ua, uc, hu⟩ := own_form hown; subst hu; have hR2 := hR.kept ((hgr.block (w.heap.size + 1) (Nat.lt_of_lt_of_le hlR (by simp)) (fun e => by have := Option.some.inj (show some (w.heap.size + 1) = some (w.heap.size + 1 + 1) from e); omega)).trans (Below.heap_alloc _ _ _ hlR)); have hA2 := hA.kept ((hgr.block w.heap.size (Nat.lt_of_lt_of_le hlA (by simp)) (fun e => by have := Option.some.inj (show some w.heap.size = some (w.heap.size + 1 + 1) from e); omega)).trans (Below.heap_alloc _ _ _ hlA)); obtain ⟨r0, r1, r2, r3⟩ := hR2.cells; have t3 := hR2.frozen 3; obtain ⟨b0, b1, b2, b3⟩ := hA2.cells; have m0 := hA2.frozen 0; have m1 := hA2.frozen 1; have m2 := hA2.frozen 2; have m3 := hA2.frozen 3))
    have hB2 : Below w.heap.size w w2 := (hBW.alloc (by omega) _).grown hgr (by simp; omega) (fun x hx => by have := Option.some.inj (show some (w.heap.size + 1 + 1) = some x from hx); omega)
    have hux : ∀ q, (Value.slice ua (2 + 1) uc).ownBlock = some q → w.heap.size + 2 ≤ q := by
      intro q hq
      rcases hnw with e | ⟨g, e, hg⟩
      · have := Option.some.inj (show some (w.heap.size + 1 + 1) = some q from e.symm.trans hq); omega
      · have := Option.some.inj (e.symm.trans hq); simp at hg; omega
    have hws2 : Ws w2 (.slice ua (2 + 1) uc) [⟨⟨#[97]⟩, false, ⟨#[]⟩⟩, ⟨⟨#[98]⟩, true, ⟨#[]⟩⟩, ⟨⟨#[98, 49, 50, 51, 52, 53, 54, 55]⟩, false, ⟨#[]⟩⟩] := hown
    obtain ⟨E1, E2, E3, E4⟩ := made_fin 2 tn hA2 hws2 hux hB2
    exact bodyPost_ret (v := .agg #[.int .i64 2, .int .i64 (tn : Nat), .int .i64 0, .slice ua (2 + 1) uc]) (by simp [results, Try.results15, go_sem, b0, b1, b2, b3]) rfl ⟨2, tn, 0, _, _, rfl, rec_many 2 (by omega) tn htn _ (ws_three _ (by decide)), E1, E2, E3⟩
  · have h5b : (pickOf raw 5 == 0) = false := beq_eq_false_iff_ne.2 h5
    clear h5
    have hux : ∀ q, (Value.slice (some ⟨w.heap.size + 1 + 1, 0, none⟩) 2 2).ownBlock = some q → w.heap.size + 2 ≤ q := fun q hq => by have := Option.some.inj (show some (w.heap.size + 1 + 1) = some q from hq); omega
    have HF := hide (made_fin2 2 tn hA hWs hux hBW)
    go_wp2_with fail
    obtain ⟨E1, E2, E3, E4⟩ := HF.out
    exact bodyPost_ret (v := .agg #[.int .i64 2, .int .i64 (tn : Nat), .int .i64 0, .slice (some ⟨w.heap.size + 1 + 1, 0, none⟩) 2 2]) (by simp [results, Try.results15, go_sem, e0, e1, e2, e3]) rfl ⟨2, tn, 0, _, _, rfl, rec_many 2 (by omega) tn htn _ (ws_two _ (by decide)), E1, E2, E3⟩
end Go.Proofs.Ytneepapppbchnaa
