/- The walks of mark, markWrite, lentWrites and wholeWrites. -/
import Derived.Test.YtneepapppbchnaaRef3
import Derived.Test.YtneepapppbchnaaRows3
namespace Go.Proofs.Ytneepapppbchnaa
open Go.RowKit Go.BigFrame
set_option linter.unusedVariables false

def markL (n : Nat) : List UInt8 := [109, 97, 114, 107] ++ numL n 8
def markT (n : Nat) : ByteArray := textOf (markL n)
def markW (n : Nat) : WrL := ⟨markT n, false, ⟨#[]⟩⟩
theorem Try.info65 : (Try.prog.info? 65).map (fun i => (i.zero, i.size, i.bytes)) = some (some (.agg #[.string ⟨#[]⟩, .bool false, .string ⟨#[]⟩]), 3, 40) := by kernel_rfl
set_option maxHeartbeats 400000 in
theorem mark_any (n : Nat) (w : World) (hn : n < 9223372036854775808) :
    Calls Try.prog 55 #[.int .i64 n] w fun e w' => e = .returned (.string (markT n)) ∧ Below w.heap.size w w' := by
  have hts : ∀ v n, (textOf (numL v n)).size = n := fun v n => by rw [textOf_size, numL_length]
  go_enter Try.func55, Try.ntmps55
  go_wp2_with fail
  refine (number_any n 8 _ hn (by omega)).mono ?_
  rintro e w1 ⟨rfl, hb⟩
  have HT : Hid ((⟨#[109, 97, 114, 107]⟩ : ByteArray) ++ textOf (numL n 8) = markT n) := by
    show textOf [109, 97, 114, 107] ++ _ = _
    rw [textOf_append]; rfl
  go_wp2_with fail
  rw [HT.out]
  go_ret
  exact ⟨rfl, hb⟩
set_option maxHeartbeats 400000 in
theorem markWrite_any (n : Nat) (w : World) (hn : n < 9223372036854775808) :
    Calls Try.prog 41 #[.int .i64 n] w fun e w' => e = .returned (.agg #[.string (markT n), .bool false, .string ⟨#[]⟩]) ∧ Below w.heap.size w w' := by
  go_enter Try.func41, Try.ntmps41
  go_wp2_with fail
  refine (mark_any n _ hn).mono ?_
  rintro e w1 ⟨rfl, hb⟩
  obtain ⟨hc, hf⟩ := bcell hb
  have hz : w.heap.size < w1.heap.size := by have := hb.size; simp at this; omega
  go_wp2_with fail
  exact bodyPost_ret (v := .agg #[.string (markT n), .bool false, .string ⟨#[]⟩]) (by simp [results, Try.results41, go_sem, hc]) rfl ⟨rfl, (((box_then hb).setCell (Nat.le_refl _) _).setCell (Nat.le_refl _) _).setCell (Nat.le_refl _) _⟩
set_option maxHeartbeats 400000 in
theorem lent_nil (w : World) : Calls Try.prog 24 #[.slice none 0 0] w fun e w' => e = .returned (.slice none 0 0) ∧ w' = w := by
  have hq := fun w => Lib.run_eql_slice_nil (P := Try.prog) w 30 65 none 0 0 0 0 Try.underlying30
  go_enter Try.func24, Try.ntmps24
  go_wp2_with fail
  go_ret
  exact ⟨rfl, rfl⟩
/-- what a list that was lent is: the writes, and marks behind them -/
def LentRow (w : World) (g : Nat) (ws rows : List WrL) : Prop :=
  WRow w 65 g rows ∧ rows.length = ws.length + 8 ∧ (∀ i, i < ws.length → rows[i]? = ws[i]?) ∧ (∀ i, ws.length ≤ i → i < ws.length + 8 → rows[i]? = some (markW 7))
set_option maxHeartbeats 400000 in
set_option maxRecDepth 100000 in
theorem lent_some (b off cap : Nat) (ws : List WrL) (w : World) (hc : CellsAt w b off ws) (hm : ws.length * 40 ≤ 140737488355328) :
    Calls Try.prog 24 #[.slice (some ⟨b, off, none⟩) ws.length cap] w fun e w' => ∃ g rows, e = .returned (.slice (some ⟨g, 0, none⟩) ws.length (ws.length + 8)) ∧ w.heap.size ≤ g ∧ LentRow w' g ws rows ∧ Below w.heap.size w w' := by
  have hq := fun w => Lib.run_eql_slice_nil (P := Try.prog) w 30 65 (some ⟨b, off, none⟩) ws.length cap 0 0 Try.underlying30
  obtain ⟨i0, hi, hz0, hz1, hz2⟩ := info_parts Try.info65
  obtain ⟨W1, hmk, hrow, hs1, hB1⟩ : ∃ W1, (Instr.makeSlice 30 (.int .i64 ((ws.length : Int) + 8)) (.int .i64 ((ws.length : Int) + 8))).run Try.prog w = .ok (.slice (some ⟨w.heap.size, 0, none⟩) (ws.length + 8) (ws.length + 8)) W1 ∧ WRow W1 65 w.heap.size (List.replicate (ws.length + 8) zeroWr) ∧ W1.heap.size = w.heap.size + 1 ∧ Below w.heap.size w W1 := by
    have h := run_make (P := Try.prog) w 30 65 i0 _ Try.underlying30 hi hz0 .i64 .i64 ((ws.length : Int) + 8) ((ws.length : Int) + 8) (by omega) (Int.le_refl _) (by rw [hz2]; omega) (by omega)
    rw [hz1, show ((ws.length : Int) + 8).toNat = ws.length + 8 by omega] at h
    refine ⟨_, h, ?_, by simp, box_below _ _⟩
    have e : (Value.agg #[.string ⟨#[]⟩, .bool false, .string ⟨#[]⟩]).cells = #[.string ⟨#[]⟩, .bool false, .string ⟨#[]⟩] := rfl
    unfold WRow
    rw [e, made_rows]
    exact heap_alloc_new w _
  have hlb : ws.length ≤ 4000000000000 := by omega
  have hc1 : CellsAt W1 b off ws := hc.below hB1
  obtain ⟨W2, hcp, hrow2, hs2, hB2⟩ := run_copy_rows (P := Try.prog) W1 30 30 3 65 w.heap.size (ws.length + 8) (ws.length + 8) b off cap _ ws Try.underlying30 (by rw [hi]; simp [hz1]) hrow (by simp) (by simp) hc1
  go_enter Try.func24, Try.ntmps24
  have hl2 : (ws ++ List.drop ws.length (List.replicate (ws.length + 8) zeroWr)).length = ws.length + 8 := by simp
  have hf2 : ∀ i, i < ws.length → (ws ++ List.drop ws.length (List.replicate (ws.length + 8) zeroWr))[i]? = ws[i]? := fun i hi => List.getElem?_append_left hi
  have H2 : Hid (∃ rows, WRow W2 65 w.heap.size rows ∧ rows.length = ws.length + 8 ∧ (∀ i, i < ws.length → rows[i]? = ws[i]?)) := ⟨_, hrow2, hl2, hf2⟩
  have hBB : Below w.heap.size w W2 := hB1.trans (hB2 _ (Nat.le_refl _))
  clear hl2 hf2 hrow hrow2 hB2
  go_wp2_with fail
  go_loopw [5] (fun i wr => ∃ (j : Nat) (rows : List WrL), j ≤ 8 ∧ i = .int .i64 ((ws.length + j : Nat) : Int) ∧ WRow wr 65 w.heap.size rows ∧ rows.length = ws.length + 8 ∧ (∀ i, i < ws.length → rows[i]? = ws[i]?) ∧ (∀ i, ws.length ≤ i → i < ws.length + j → rows[i]? = some (markW 7)) ∧ Below w.heap.size w wr) (fun i _ => ws.length + 8 - (intOf i).toNat)
  case atStart =>
    obtain ⟨rows, h1, h2, h3⟩ := H2.out
    exact ⟨0, rows, by omega, rfl, h1, h2, h3, fun i a b => absurd a (by omega), hBB⟩
  case round =>
    obtain ⟨j, rows, hj, rfl, hrow, hlen, hfirst, hmarks, hbel⟩ := hrel
    have HF : Hid (∀ i, i < ws.length → rows[i]? = ws[i]?) := hfirst
    have HM : Hid (∀ i, ws.length ≤ i → i < ws.length + j → rows[i]? = some (markW 7)) := hmarks
    have HLN : Hid (rows.length = ws.length + 8) := hlen
    clear hfirst hmarks hlen
    by_cases hlt : j < 8
    · go_wp2_with fail
      refine (markWrite_any 7 _ (by omega)).mono ?_
      rintro e w3 ⟨rfl, hb3⟩
      have hrow3 : WRow w3 65 w.heap.size rows := hrow.kept (hb3.block _ hrow.lt)
      have hB3 : Below w.heap.size w w3 := hbel.trans (hb3.mono hbel.size)
      obtain ⟨c0, c1, c2⟩ := hrow3.cellsAt (ws.length + j) (by rw [HLN.out]; omega)
      simp only [Nat.zero_add] at c0 c1 c2
      have f0 := hrow3.frozen ((ws.length + j) * 3)
      have f1 := hrow3.frozen ((ws.length + j) * 3 + 1)
      have f2 := hrow3.frozen ((ws.length + j) * 3 + 2)
      have hidx : ws.length + j < rows.length := by rw [HLN.out]; omega
      generalize rows[ws.length + j] = old at *
      go_wp2_with fail
      go_roundw
      case rel =>
        refine ⟨j + 1, rows.set (ws.length + j) (markW 7), by omega, by go_num, hrow3.set _ hidx (markW 7), by rw [List.length_set, HLN.out], ?_, ?_, ?_⟩
        · intro i hi
          rw [List.getElem?_set_ne (by omega)]; exact HF.out i hi
        · intro i h1 h2
          by_cases he : i = ws.length + j
          · subst he; rw [List.getElem?_set_self hidx]
          · rw [List.getElem?_set_ne (by omega)]; exact HM.out i h1 (by omega)
        · exact ((hB3.setCell (Nat.le_refl _) _).setCell (Nat.le_refl _) _).setCell (Nat.le_refl _) _
      case measure => simp [intOf]; omega
    · obtain rfl : j = 8 := by omega
      go_wp2_with fail
      go_ret
      exact ⟨_, rows, rfl, Nat.le_refl _, ⟨hrow, HLN.out, HF.out, HM.out⟩, hbel⟩

set_option maxHeartbeats 400000 in
theorem whole_nil (v : Value) (w : World) : Calls Try.prog 26 #[v, .slice none 0 0] w fun e w' => e = .returned (.bool true) ∧ w' = w := by
  have hq := fun w => Lib.run_eql_slice_nil (P := Try.prog) w 30 65 none 0 0 0 0 Try.underlying30
  go_enter Try.func26, Try.ntmps26
  go_wp2_with fail
  go_ret
  exact ⟨rfl, rfl⟩
set_option maxHeartbeats 400000 in
set_option maxRecDepth 100000 in
theorem whole_some (g b off cap B : Nat) (ws rows0 : List WrL) (w : World) (hc : CellsAt w b off ws) (hb : 0 < ws.length → b < B) (hB : B ≤ g) (hl : LentRow w g ws rows0) (hm : ws.length * 40 ≤ 140737488355328) :
    Calls Try.prog 26 #[.slice (some ⟨g, 0, none⟩) ws.length (ws.length + 8), .slice (some ⟨b, off, none⟩) ws.length cap] w fun e w' => e = .returned (.bool true) ∧ Below B w w' := by
  have hq := fun w => Lib.run_eql_slice_nil (P := Try.prog) w 30 65 (some ⟨b, off, none⟩) ws.length cap 0 0 Try.underlying30
  obtain ⟨hr0, hl0, hf0, hm0⟩ := hl
  have hlb : ws.length ≤ 4000000000000 := by omega
  have HF0 : Hid (∀ i, i < ws.length → rows0[i]? = ws[i]?) := hf0
  have HM0 : Hid (∀ i, ws.length ≤ i → i < ws.length + 8 → rows0[i]? = some (markW 7)) := hm0
  have HL0 : Hid (rows0.length = ws.length + 8) := hl0
  have hgw := hr0.lt
  clear hf0 hm0 hl0
  go_enter Try.func26, Try.ntmps26
  go_wp2_with fail
  go_loopw [7, 8, 9] (fun ok i _ wr => ∃ (k : Nat) (rows : List WrL), k ≤ ws.length + 8 ∧ i = .int .i64 (k : Int) ∧ ok = .bool true ∧ WRow wr 65 g rows ∧ rows.length = ws.length + 8 ∧ (∀ i, k ≤ i → rows[i]? = rows0[i]?) ∧ Below B w wr) (fun _ i _ _ => ws.length + 8 - (intOf i).toNat)
  case atStart => exact ⟨0, rows0, by omega, rfl, rfl, hr0, HL0.out, fun _ _ => rfl, Below.refl _ _⟩
  case round =>
    obtain ⟨k, rows, hk, rfl, rfl, hrow, hlen, hrest, hbel⟩ := hrel
    have HR : Hid (∀ i, k ≤ i → rows[i]? = rows0[i]?) := hrest
    have HLN : Hid (rows.length = ws.length + 8) := hlen
    clear hrest hlen
    by_cases hlt : k < ws.length + 8
    · have hidx : k < rows.length := by rw [HLN.out]; omega
      have HK : Hid (rows[k]? = some rows[k]) := List.getElem?_eq_getElem hidx
      go_wp2_with fail
      refine (markWrite_any 7 _ (by omega)).mono ?_
      rintro e w3 ⟨rfl, hb3⟩
      have hrow3 : WRow w3 65 g rows := hrow.kept (hb3.block _ hrow.lt)
      have hB3 : Below B w w3 := hbel.trans (hb3.mono (Nat.le_trans hB (Nat.le_of_lt hrow.lt)))
      obtain ⟨c0, c1, c2⟩ := hrow3.cellsAt k hidx
      simp only [Nat.zero_add] at c0 c1 c2
      generalize rows[k] = cur at *
      by_cases hin : k < ws.length
      · have hcur : ws[k] = cur := by
          have h1 := HK.out
          rw [HR.out k (Nat.le_refl _), HF0.out k hin, List.getElem?_eq_getElem hin] at h1
          exact Option.some.inj h1
        have hcl : CellsAt w3 b off ws := hc.same fun hp => hB3.block b (hb hp)
        obtain ⟨l0, l1, l2⟩ := hcl k hin
        rw [hcur] at l0 l1 l2
        clear hcur
        have hbw3 : b < w3.heap.size := World.block_lt_of_cell? w3 _ l0
        have hgw3 : g < w3.heap.size := hrow3.lt
        obtain ⟨ck, cd, cv⟩ := cur
        simp only at c0 c1 c2 l0 l1 l2
        go_wp2_with fail
        have hBX : Below B w (w3.alloc (.cells #[.string ck, .bool cd, .string cv] 65)) := hB3.alloc (Nat.le_trans hB (Nat.le_of_lt hgw3)) _
        have hrowX : WRow (w3.alloc (.cells #[.string ck, .bool cd, .string cv] 65)) 65 g rows := hrow3.kept (Below.heap_alloc w3 _ g hgw3)
        go_quiet (fail)
        go_wp2_with fail
        refine (markWrite_any 9 _ (by omega)).mono ?_
        rintro e w5 ⟨rfl, hb5⟩
        have hrow5 : WRow w5 65 g rows := hrowX.kept (hb5.block _ hrowX.lt)
        have hB5 : Below B w w5 := (below_drewN hBX nq).trans (hb5.mono (Nat.le_trans hB (Nat.le_of_lt hrowX.lt)))
        obtain ⟨d0, d1, d2⟩ := hrow5.cellsAt k hidx
        simp only [Nat.zero_add] at d0 d1 d2
        have f0 := hrow5.frozen (k * 3)
        have f1 := hrow5.frozen (k * 3 + 1)
        have f2 := hrow5.frozen (k * 3 + 2)
        generalize rows[k] = old at *
        go_wp2_with fail
        go_roundw
        case rel =>
          refine ⟨k + 1, rows.set k (markW 9), by omega, by go_num, rfl, hrow5.set k hidx (markW 9), by rw [List.length_set, HLN.out], ?_, ?_⟩
          · intro i hi
            rw [List.getElem?_set_ne (by omega)]; exact HR.out i (by omega)
          · exact ((hB5.setCell hB _).setCell hB _).setCell hB _
        case measure => simp [intOf]; omega
      · have hcur : cur = markW 7 := by
          have h1 := HK.out
          rw [HR.out k (Nat.le_refl _), HM0.out k (by omega) hlt] at h1
          exact (Option.some.inj h1).symm
        subst hcur
        have hgw3 : g < w3.heap.size := hrow3.lt
        have e1 : (markW 7).key = markT 7 := rfl
        have e2 : (markW 7).dead = false := rfl
        have e3 : (markW 7).value = ⟨#[]⟩ := rfl
        rw [e1] at c0
        rw [e2] at c1
        rw [e3] at c2
        clear e1 e2 e3
        go_wp2_with fail
        have hBX : Below B w (w3.alloc (.cells #[.string (markT 7), .bool false, .string ⟨#[]⟩] 65)) := hB3.alloc (Nat.le_trans hB (Nat.le_of_lt hgw3)) _
        have hrowX : WRow (w3.alloc (.cells #[.string (markT 7), .bool false, .string ⟨#[]⟩] 65)) 65 g rows := hrow3.kept (Below.heap_alloc w3 _ g hgw3)
        go_quiet (fail)
        go_wp2_with fail
        refine (markWrite_any 9 _ (by omega)).mono ?_
        rintro e w5 ⟨rfl, hb5⟩
        have hrow5 : WRow w5 65 g rows := hrowX.kept (hb5.block _ hrowX.lt)
        have hB5 : Below B w w5 := (below_drewN hBX nq).trans (hb5.mono (Nat.le_trans hB (Nat.le_of_lt hrowX.lt)))
        obtain ⟨d0, d1, d2⟩ := hrow5.cellsAt k hidx
        simp only [Nat.zero_add] at d0 d1 d2
        have f0 := hrow5.frozen (k * 3)
        have f1 := hrow5.frozen (k * 3 + 1)
        have f2 := hrow5.frozen (k * 3 + 2)
        generalize rows[k] = old at *
        go_wp2_with fail
        go_roundw
        case rel =>
          refine ⟨k + 1, rows.set k (markW 9), by omega, by go_num, rfl, hrow5.set k hidx (markW 9), by rw [List.length_set, HLN.out], ?_, ?_⟩
          · intro i hi
            rw [List.getElem?_set_ne (by omega)]; exact HR.out i (by omega)
          · exact ((hB5.setCell hB _).setCell hB _).setCell hB _
        case measure => simp [intOf]; omega
    · go_wp2_with fail
      go_ret
      exact ⟨rfl, hbel⟩
end Go.Proofs.Ytneepapppbchnaa
