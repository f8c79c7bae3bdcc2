/- What a list of writes is; the walks of isWrite, areWrites, isItem. -/
import Derived.Test.YtneepapppbchnaaSums
import Derived.Test.YtneepapppbchnaaMem
import Derived.Test.YtneepapppbchnaaCalm
namespace Go.Proofs.Ytneepapppbchnaa
open Go.RowKit Go.BigFrame
set_option linter.unusedVariables false

/-- a write, as the program's type api.Write has it -/
structure WrL where
  key : ByteArray
  dead : Bool
  value : ByteArray
def wrB (r : WrL) : Bool := decide (¬ (r.dead = true ∧ r.value.size ≠ 0) ∧ keyB r.key = true ∧ r.value.size ≤ 16)
theorem wrB_yes {r : WrL} (h : ¬ (r.dead = true ∧ r.value.size ≠ 0) ∧ keyB r.key = true ∧ r.value.size ≤ 16) : wrB r = true := decide_eq_true h
theorem wrB_no {r : WrL} (h : ¬ (¬ (r.dead = true ∧ r.value.size ≠ 0) ∧ keyB r.key = true ∧ r.value.size ≤ 16)) : wrB r = false := decide_eq_false h
def WrL.agg (r : WrL) : Value := .agg #[.string r.key, .bool r.dead, .string r.value]
def WrL.sized (r : WrL) : Prop := r.key.size ≤ maxLen ∧ r.value.size ≤ maxLen
/-- the row of writes ws from the place off of the block b on -/
def CellsAt (w : World) (b off : Nat) (ws : List WrL) : Prop :=
  ∀ i (h : i < ws.length), w.cell? ⟨b, off + i * 3, none⟩ = some (.string ws[i].key) ∧ w.cell? ⟨b, off + i * 3 + 1, none⟩ = some (.bool ws[i].dead) ∧ w.cell? ⟨b, off + i * 3 + 2, none⟩ = some (.string ws[i].value)
/-- the slice v holds the writes ws -/
def WsAt (w : World) (v : Value) (ws : List WrL) : Prop :=
  (v = .slice none 0 0 ∧ ws = []) ∨ ∃ b off cap, v = .slice (some ⟨b, off, none⟩) ws.length cap ∧ CellsAt w b off ws
def SizedAll (ws : List WrL) : Prop := ∀ i (h : i < ws.length), ws[i].sized
theorem CellsAt.lt {w : World} {b off : Nat} {ws : List WrL} (h : CellsAt w b off ws) (hn : 0 < ws.length) : b < w.heap.size := World.block_lt_of_cell? w _ (h 0 hn).1
theorem CellsAt.same {w wr : World} {b off : Nat} {ws : List WrL} (h : CellsAt w b off ws) (hb : 0 < ws.length → wr.heap[b]? = w.heap[b]?) : CellsAt wr b off ws := by
  intro i hi
  have e := hb (by omega)
  obtain ⟨h1, h2, h3⟩ := h i hi
  exact ⟨(World.cell?_of_block (a := ⟨b, off + i * 3, none⟩) e).trans h1, (World.cell?_of_block (a := ⟨b, off + i * 3 + 1, none⟩) e).trans h2, (World.cell?_of_block (a := ⟨b, off + i * 3 + 2, none⟩) e).trans h3⟩
theorem CellsAt.below {w wr : World} {b off : Nat} {ws : List WrL} (h : CellsAt w b off ws) (hb : Below w.heap.size w wr) : CellsAt wr b off ws :=
  h.same fun hn => hb.block b (h.lt hn)
theorem WsAt.below {w wr : World} {v : Value} {ws : List WrL} (h : WsAt w v ws) (hb : Below w.heap.size w wr) : WsAt wr v ws := by
  rcases h with h | ⟨b, off, cap, h1, h2⟩
  · exact .inl h
  · exact .inr ⟨b, off, cap, h1, h2.below hb⟩

theorem isValue_any (s : ByteArray) (w : World) (hs : s.size ≤ maxLen) :
    Calls Try.prog 68 #[.string s] w fun e w' => e = .returned (.bool (decide (s.size ≤ 16))) ∧ w' = w := by
  unfold maxLen at hs
  go_enter Try.func68, Try.ntmps68
  go_wp2
  go_ret
  exact ⟨ret_bool (by simp; omega), rfl⟩
theorem empty_iff (s : ByteArray) : s.toList.isEmpty = decide (s.size = 0) := by
  rw [ByteArray.toList_eq]
  obtain ⟨⟨l⟩⟩ := s
  cases l <;> simp [ByteArray.size]
set_option maxHeartbeats 400000 in
theorem isWrite_any (r : WrL) (w : World) (hs : r.sized) :
    Calls Try.prog 64 #[r.agg] w fun e w' => e = .returned (.bool (wrB r)) ∧ Below w.heap.size w w' := by
  obtain ⟨k, d, v⟩ := r
  obtain ⟨h1, h2⟩ := hs
  unfold WrL.agg
  simp only at h1 h2 ⊢
  cases d
  · go_enter Try.func64, Try.ntmps64
    go_wp2_with fail
    refine (isKey_any k _ h1).mono ?_
    rintro e w' ⟨rfl, rfl⟩
    cases hk : keyB k
    · have HR : Hid (wrB ⟨k, false, v⟩ = false) := wrB_no (by simp [hk])
      go_wp2_with fail
      go_ret
      exact ⟨ret_bool HR.out.symm, (Below.refl _ _).alloc (Nat.le_refl _) _⟩
    · have HR : Hid (wrB ⟨k, false, v⟩ = decide (v.size ≤ 16)) := by
        show _ = _
        unfold wrB; simp [hk]
      go_wp2_with fail
      refine (isValue_any v _ h2).mono ?_
      rintro e w' ⟨rfl, rfl⟩
      go_wp2_with fail
      go_ret
      exact ⟨ret_bool HR.out.symm, (Below.refl _ _).alloc (Nat.le_refl _) _⟩
  · by_cases hv : v.size = 0
    · have hve : v.toList.isEmpty = true := by rw [empty_iff]; simpa using hv
      have hve2 : v.toList = [] := by simpa using hve
      go_enter Try.func64, Try.ntmps64
      go_wp2_with fail
      refine (isKey_any k _ h1).mono ?_
      rintro e w' ⟨rfl, rfl⟩
      cases hk : keyB k
      · have HR : Hid (wrB ⟨k, true, v⟩ = false) := wrB_no (by simp [hk])
        go_wp2_with fail
        go_ret
        exact ⟨ret_bool HR.out.symm, (Below.refl _ _).alloc (Nat.le_refl _) _⟩
      · have HR : Hid (wrB ⟨k, true, v⟩ = true) := wrB_yes (by simp [hk, hv])
        go_wp2_with fail
        refine (isValue_any v _ h2).mono ?_
        rintro e w' ⟨rfl, rfl⟩
        go_wp2_with fail
        go_ret
        exact ⟨ret_bool HR.out.symm, (Below.refl _ _).alloc (Nat.le_refl _) _⟩
    · have hve : v.toList.isEmpty = false := by rw [empty_iff]; simpa using hv
      have HR : Hid (wrB ⟨k, true, v⟩ = false) := wrB_no (by simp [hv])
      go_enter Try.func64, Try.ntmps64
      go_wp2_with fail
      go_ret
      exact ⟨ret_bool HR.out.symm, (Below.refl _ _).alloc (Nat.le_refl _) _⟩
theorem isWrite_is (r : WrL) (w : World) (hs : r.sized) {d : Bool} (hd : wrB r = d) :
    Calls Try.prog 64 #[.agg #[.string r.key, .bool r.dead, .string r.value]] w fun e w' => e = .returned (.bool d) ∧ Below w.heap.size w w' := by
  subst hd; exact isWrite_any r w hs
theorem cell0a (w : World) (x y z : Value) (t : TypeId) : (w.alloc (.cells #[x, y, z] t)).cell? ⟨w.heap.size, 0, none⟩ = some x := by simp
theorem cell1a (w : World) (x y z : Value) (t : TypeId) : (w.alloc (.cells #[x, y, z] t)).cell? ⟨w.heap.size, 1, none⟩ = some y := by simp
theorem cell2a (w : World) (x y z : Value) (t : TypeId) : (w.alloc (.cells #[x, y, z] t)).cell? ⟨w.heap.size, 2, none⟩ = some z := by simp
def okAt (ws : List WrL) (i : Nat) : Prop := ∀ (h : i < ws.length), wrB ws[i] = true ∧ (0 < i → Op.bytesLess ws[i - 1].key.toList ws[i].key.toList = true)
theorem ok_next {ws : List WrL} {k : Nat} (h : ∀ j, j < k → okAt ws j) (hk : okAt ws k) : ∀ j, j < k + 1 → okAt ws j := by
  intro j hj
  rcases Nat.lt_or_eq_of_le (Nat.le_of_lt_succ hj) with h1 | h1
  · exact h j h1
  · subst h1; exact hk
set_option maxHeartbeats 1000000 in
set_option maxRecDepth 100000 in
theorem areWrites_some (ws : List WrL) (b off cap : Nat) (w : World) (hs : SizedAll ws) (h1 : 1 ≤ ws.length) (h6 : ws.length ≤ 6) (hc : CellsAt w b off ws) :
    Calls Try.prog 59 #[.slice (some ⟨b, off, none⟩) ws.length cap] w fun e w' => (∃ d : Bool, e = .returned (.bool d) ∧ (d = true ↔ ∀ i, i < ws.length → okAt ws i)) ∧ Below w.heap.size w w' := by
  have g1 : decide ((ws.length : Int) < 1) = false := by simp; omega
  have g2 : decide (6 < (ws.length : Int)) = false := by simp; omega
  go_enter Try.func59, Try.ntmps59
  go_wp2
  go_loopw [3, 4, 15] (fun _ _ i wr => ∃ k : Nat, k ≤ ws.length ∧ i = .int .i64 k ∧ (∀ j, j < k → okAt ws j) ∧ Below w.heap.size w wr) (fun _ _ i _ => ws.length - (intOf i).toNat)
  case atStart => exact ⟨0, Nat.zero_le _, rfl, fun _ h => absurd h (by omega), Below.refl _ _⟩
  case round =>
    obtain ⟨k, hk, rfl, hok, hbel⟩ := hrel
    have HO : Hid (∀ j, j < k → okAt ws j) := hok
    clear hok
    by_cases hlt : k < ws.length
    · obtain ⟨c0, c1, c2⟩ := (hc.below hbel) k hlt
      have HS : Hid (okAt ws k ↔ wrB ws[k] = true ∧ (0 < k → Op.bytesLess ws[k - 1].key.toList ws[k].key.toList = true)) := ⟨fun h => h hlt, fun h _ => h⟩
      have hsz := hs k hlt
      generalize hr : ws[k] = r at *
      clear hr
      have W0 := BelowW.cell (cell0a wr (.string r.key) (.bool r.dead) (.string r.value) 65)
      have W1 := BelowW.cell (cell1a wr (.string r.key) (.bool r.dead) (.string r.value) 65)
      have W2 := BelowW.cell (cell2a wr (.string r.key) (.bool r.dead) (.string r.value) 65)
      haveI := BelowW.ne (wr.alloc (.cells #[.string r.key, .bool r.dead, .string r.value] 65))
      have hal : Below w.heap.size w (wr.alloc (.cells #[.string r.key, .bool r.dead, .string r.value] 65)) := hbel.alloc hbel.size _
      have HAL : ∀ x : BelowW (wr.alloc (.cells #[.string r.key, .bool r.dead, .string r.value] 65)), Below w.heap.size w x.w := fun x => hal.trans (x.h.mono hal.size)
      cases hw : wrB r
      · go_wp2
        refine wp_region_calm (by kernel_rfl) (by kernel_rfl) ?_
        repeat (go_big_quiet_step ((go_at_call 64; exact calm_of _ (isWrite_is r _ hsz hw))))
        refine wpQuiet_nil ?_
        rintro _ ⟨xq, rfl⟩
        go_wp2
        go_ret
        refine ⟨⟨_, rfl, ?_⟩, HAL xq⟩
        simp only [Bool.false_eq_true, false_iff]
        intro hall
        have := (HS.out.1 (hall k hlt)).1
        rw [hw] at this; cases this
      · by_cases hk0 : k < 1
        · have g3 : decide (0 < (k : Int)) = false := by simp; omega
          have g3n : decide (0 < k) = false := by simp; omega
          go_wp2
          refine wp_region_calm (by kernel_rfl) (by kernel_rfl) ?_
          repeat (go_big_quiet_step ((go_at_call 64; exact calm_of _ (isWrite_is r _ hsz hw))))
          refine wpQuiet_nil ?_
          rintro _ ⟨xq, rfl⟩
          go_wp2
          go_roundw
          case rel => exact ⟨k + 1, by omega, by go_num, ok_next HO.out (HS.out.2 ⟨hw, fun h => absurd h (by omega)⟩), HAL xq⟩
          case measure => simp [intOf]; omega
        · have g3 : decide (0 < (k : Int)) = true := by simp; omega
          have g3n : decide (0 < k) = true := by simp; omega
          have g4 : (1 : Int) ≤ (k : Int) := by omega
          have p0 := ((hc.below hbel) (k - 1) (by omega)).1
          generalize hpk : ws[k - 1].key = pk at *
          clear hpk
          have W3 := BelowW.cell (W := wr.alloc (.cells #[.string r.key, .bool r.dead, .string r.value] 65)) (a := ⟨b, off + (k - 1) * 3, none⟩) (v := .string pk) ((World.cell?_alloc_lt wr _ _ (World.block_lt_of_cell? wr _ p0)).trans p0)
          cases hless : Op.bytesLess pk.toList r.key.toList
          · go_wp2
            refine wp_region_calm (by kernel_rfl) (by kernel_rfl) ?_
            repeat (go_big_quiet_step ((go_at_call 64; exact calm_of _ (isWrite_is r _ hsz hw))))
            refine wpQuiet_nil ?_
            rintro _ ⟨xq, rfl⟩
            go_wp2
            go_ret
            refine ⟨⟨_, rfl, ?_⟩, HAL xq⟩
            simp only [Bool.false_eq_true, false_iff]
            intro hall
            have := (HS.out.1 (hall k hlt)).2 (by omega)
            rw [hless] at this; cases this
          · go_wp2
            refine wp_region_calm (by kernel_rfl) (by kernel_rfl) ?_
            repeat (go_big_quiet_step ((go_at_call 64; exact calm_of _ (isWrite_is r _ hsz hw))))
            refine wpQuiet_nil ?_
            rintro _ ⟨xq, rfl⟩
            go_wp2
            go_roundw
            case rel => exact ⟨k + 1, by omega, by go_num, ok_next HO.out (HS.out.2 ⟨hw, fun _ => hless⟩), HAL xq⟩
            case measure => simp [intOf]; omega
    · go_wp2
      go_ret
      exact ⟨⟨_, rfl, by simp; exact fun i hi => HO.out i (by omega)⟩, hbel⟩

def okB (ws : List WrL) (i : Nat) : Bool := if h : i < ws.length then wrB ws[i] && (decide (i = 0) || Op.bytesLess ws[i - 1].key.toList ws[i].key.toList) else true
theorem okB_iff (ws : List WrL) (i : Nat) : okB ws i = true ↔ okAt ws i := by
  unfold okB okAt
  by_cases h : i < ws.length
  · rw [dif_pos h]
    simp only [Bool.and_eq_true, Bool.or_eq_true, decide_eq_true_eq]
    constructor
    · rintro ⟨h1, h2⟩ _
      exact ⟨h1, fun h0 => h2.resolve_left (by omega)⟩
    · intro h1
      refine ⟨(h1 h).1, ?_⟩
      by_cases h0 : i = 0
      · exact .inl h0
      · exact .inr ((h1 h).2 (by omega))
  · rw [dif_neg h]
    exact ⟨fun _ h' => absurd h' h, fun _ => rfl⟩
/-- are these WRITES, at most so many? -/
def wsB (ws : List WrL) (most : Nat) : Bool := decide (1 ≤ ws.length) && decide (ws.length ≤ most) && (List.range ws.length).all (okB ws)
theorem wsB_iff (ws : List WrL) (most : Nat) : wsB ws most = true ↔ 1 ≤ ws.length ∧ ws.length ≤ most ∧ ∀ i, i < ws.length → okAt ws i := by
  unfold wsB
  simp only [Bool.and_eq_true, decide_eq_true_eq, List.all_eq_true, List.mem_range, okB_iff, and_assoc]
theorem bool_of_iff {d : Bool} {ws : List WrL} {most : Nat} (h1 : 1 ≤ ws.length) (h2 : ws.length ≤ most) (h : d = true ↔ ∀ i, i < ws.length → okAt ws i) : d = wsB ws most := by
  rw [Bool.eq_iff_iff, h, wsB_iff]
  exact ⟨fun h => ⟨h1, h2, h⟩, fun h => h.2.2⟩
theorem wsB_none (ws : List WrL) (most : Nat) (h : ws.length < 1 ∨ most < ws.length) : wsB ws most = false := by
  cases h' : wsB ws most
  · rfl
  · have := (wsB_iff ws most).1 h'; omega

set_option maxHeartbeats 400000 in
theorem areWrites_out (v : Value) (ws : List WrL) (w : World) (hb : ∃ a cap, v = .slice a ws.length cap) (hm : ws.length ≤ maxLen) (h : ws.length < 1 ∨ 6 < ws.length) :
    Calls Try.prog 59 #[v] w fun e w' => e = .returned (.bool false) ∧ w' = w := by
  obtain ⟨a, cap, rfl⟩ := hb
  unfold maxLen at hm
  rcases h with h | h
  · go_enter Try.func59, Try.ntmps59
    go_wp2
    go_ret
    exact ⟨rfl, rfl⟩
  · have h1 : ¬ ws.length < 1 := by omega
    go_enter Try.func59, Try.ntmps59
    go_wp2
    go_ret
    exact ⟨rfl, rfl⟩
theorem WsAt.form {w : World} {v : Value} {ws : List WrL} (h : WsAt w v ws) : ∃ a cap, v = .slice a ws.length cap := by
  rcases h with ⟨rfl, rfl⟩ | ⟨b, off, cap, rfl, _⟩
  · exact ⟨_, _, rfl⟩
  · exact ⟨_, _, rfl⟩
theorem areWrites_any (v : Value) (ws : List WrL) (w : World) (hv : WsAt w v ws) (hs : SizedAll ws) (hm : ws.length ≤ maxLen) :
    Calls Try.prog 59 #[v] w fun e w' => e = .returned (.bool (wsB ws 6)) ∧ Below w.heap.size w w' := by
  by_cases h : ws.length < 1 ∨ 6 < ws.length
  · refine (areWrites_out v ws w hv.form hm h).mono ?_
    rintro e w' ⟨rfl, rfl⟩
    exact ⟨ret_bool (wsB_none ws 6 h).symm, Below.refl _ _⟩
  · rcases hv with ⟨rfl, rfl⟩ | ⟨b, off, cap, rfl, hc⟩
    · simp at h
    · refine (areWrites_some ws b off cap w hs (by omega) (by omega) hc).mono ?_
      rintro e w' ⟨⟨d, rfl, hd⟩, hb⟩
      exact ⟨ret_bool (bool_of_iff (by omega) (by omega) hd), hb⟩

/-- Writes of one write that is not dead. -/
def itemB (ws : List WrL) : Bool := match ws with | [r] => wrB r && !r.dead | _ => false
theorem itemB_no (ws : List WrL) (h : ws.length ≠ 1) : itemB ws = false := by
  match ws, h with
  | [], _ => rfl
  | [_], h => simp at h
  | _ :: _ :: _, _ => rfl
set_option maxHeartbeats 400000 in
set_option maxRecDepth 100000 in
theorem isItem_any (v : Value) (ws : List WrL) (w : World) (hv : WsAt w v ws) (hs : SizedAll ws) (hm : ws.length ≤ maxLen) :
    Calls Try.prog 61 #[v] w fun e w' => e = .returned (.bool (itemB ws)) ∧ Below w.heap.size w w' := by
  unfold maxLen at hm
  by_cases h : ws.length = 1
  · rcases hv with ⟨rfl, rfl⟩ | ⟨b, off, cap, rfl, hc⟩
    · simp at h
    · obtain ⟨r, rfl⟩ : ∃ r, ws = [r] := List.length_eq_one_iff.1 h
      obtain ⟨c0, c1, c2⟩ := hc 0 (by simp)
      have hsz : r.sized := hs 0 (by simp)
      simp only [List.getElem_cons_zero, Nat.zero_mul, Nat.add_zero] at c0 c1 c2
      have HI : Hid (itemB [r] = (wrB r && !r.dead)) := rfl
      clear h hm hs hc
      cases hw : wrB r
      · go_enter Try.func61, Try.ntmps61
        go_wp2_with fail
        refine (isWrite_is r _ hsz hw).mono ?_
        rintro e w1 ⟨rfl, hb1⟩
        go_wp2_with fail
        go_ret
        exact ⟨ret_bool (by rw [HI.out, hw]; rfl), hb1⟩
      · go_enter Try.func61, Try.ntmps61
        go_wp2_with fail
        refine (isWrite_is r _ hsz hw).mono ?_
        rintro e w1 ⟨rfl, hb1⟩
        have hd : w1.cell? ⟨b, off + 1, none⟩ = some (.bool r.dead) := (hb1.cell (World.block_lt_of_cell? w _ c1)).trans c1
        go_wp2_with fail
        go_ret
        exact ⟨ret_bool (by rw [HI.out, hw]; rfl), hb1⟩
  · obtain ⟨a, cap, rfl⟩ := hv.form
    have HI : Hid (itemB ws = false) := itemB_no ws h
    have hb : ((ws.length : Int) == 1) = false := by rw [beq_eq_false_iff_ne]; omega
    clear hv
    go_enter Try.func61, Try.ntmps61
    go_wp2_with fail
    go_ret
    exact ⟨ret_bool HI.out.symm, Below.refl _ _⟩
end Go.Proofs.Ytneepapppbchnaa
