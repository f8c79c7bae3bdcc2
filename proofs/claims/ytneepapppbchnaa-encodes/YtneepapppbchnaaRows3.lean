/- A row of writes that the caller owns: made, copied into, written, read. No program is named here. -/
import Derived.Test.YtneepapppbchnaaWrites
import Derived.Laws.MakeOwn
import Derived.Laws.CopyRow
namespace Go.Proofs.Ytneepapppbchnaa
open Go.RowKit
set_option linter.unusedVariables false

def WrL.cells (r : WrL) : List Value := [.string r.key, .bool r.dead, .string r.value]
def cellsOf (rows : List WrL) : List Value := rows.flatMap WrL.cells
theorem cellsOf_length (rows : List WrL) : (cellsOf rows).length = rows.length * 3 := by
  induction rows with
  | nil => rfl
  | cons r rows ih => simp only [cellsOf, List.flatMap_cons, List.length_append, List.length_cons] at *; simp only [WrL.cells, List.length_cons, List.length_nil]; omega
theorem cellsOf_append (a b : List WrL) : cellsOf (a ++ b) = cellsOf a ++ cellsOf b := by unfold cellsOf; rw [List.flatMap_append]
/-- the block g is a row of writes, all of it -/
def WRow (w : World) (t : TypeId) (g : Nat) (rows : List WrL) : Prop := w.heap[g]? = some (.cells (cellsOf rows).toArray t (0, 0))
theorem WRow.lt {w : World} {t : TypeId} {g : Nat} {rows : List WrL} (h : WRow w t g rows) : g < w.heap.size := by
  rcases Nat.lt_or_ge g w.heap.size with h1 | h1
  · exact h1
  · unfold WRow at h; rw [Array.getElem?_eq_none h1] at h; cases h
theorem WRow.kept {w w' : World} {t : TypeId} {g : Nat} {rows : List WrL} (h : WRow w t g rows) (hb : w'.heap[g]? = w.heap[g]?) : WRow w' t g rows := hb.trans h
theorem cellsOf_get (rows : List WrL) (i : Nat) (h : i < rows.length) : (cellsOf rows)[i * 3]? = some (.string rows[i].key) ∧ (cellsOf rows)[i * 3 + 1]? = some (.bool rows[i].dead) ∧ (cellsOf rows)[i * 3 + 2]? = some (.string rows[i].value) := by
  induction rows generalizing i with
  | nil => simp at h
  | cons r rows ih =>
    have hc : cellsOf (r :: rows) = .string r.key :: .bool r.dead :: .string r.value :: cellsOf rows := rfl
    rw [hc]
    cases i with
    | zero => simp
    | succ i =>
      have := ih i (by simpa using h)
      rw [show (i + 1) * 3 = i * 3 + 3 by omega]
      simpa using this
theorem WRow.cellsAt {w : World} {t : TypeId} {g : Nat} {rows : List WrL} (h : WRow w t g rows) : CellsAt w g 0 rows := by
  intro i hi
  obtain ⟨h1, h2, h3⟩ := cellsOf_get rows i hi
  unfold WRow at h
  refine ⟨?_, ?_, ?_⟩ <;> simp only [World.cell?, h, Nat.zero_add, List.getElem?_toArray] <;> assumption
theorem WRow.part {w : World} {t : TypeId} {g : Nat} {rows ws : List WrL} (h : WRow w t g rows) (hl : ws.length ≤ rows.length) (he : ∀ i, i < ws.length → rows[i]? = ws[i]?) : CellsAt w g 0 ws := by
  intro i hi
  have := h.cellsAt i (by omega)
  have e := he i hi
  rw [List.getElem?_eq_getElem (by omega), List.getElem?_eq_getElem hi] at e
  injection e with e
  rwa [e] at this
theorem WRow.frozen {w : World} {t : TypeId} {g : Nat} {rows : List WrL} (h : WRow w t g rows) (o : Nat) : w.frozen? ⟨g, o, none⟩ = false := by
  unfold WRow at h
  simp [World.frozen?, h]
theorem cellsOf_set (rows : List WrL) (i : Nat) (h : i < rows.length) (r : WrL) : (((cellsOf rows).set (i * 3) (.string r.key)).set (i * 3 + 1) (.bool r.dead)).set (i * 3 + 2) (.string r.value) = cellsOf (rows.set i r) := by
  induction rows generalizing i with
  | nil => simp at h
  | cons x rows ih =>
    have hc : ∀ (x : WrL) rows, cellsOf (x :: rows) = .string x.key :: .bool x.dead :: .string x.value :: cellsOf rows := fun _ _ => rfl
    cases i with
    | zero => simp [hc]
    | succ i =>
      have := ih i (by simpa using h)
      rw [show (i + 1) * 3 = i * 3 + 3 by omega]
      simp only [List.set_cons_succ, hc]
      simpa using this
theorem heap_setCell_at (w : World) (g o : Nat) (c : Array Value) (t : TypeId) (fr : Nat × Nat) (v : Value) (h : w.heap[g]? = some (.cells c t fr)) : (w.setCell ⟨g, o, none⟩ v).heap[g]? = some (.cells (c.setIfInBounds o v) t fr) := by
  unfold World.setCell
  simp only [Array.getElem?_modify, h]
  simp
theorem WRow.set {w : World} {t : TypeId} {g : Nat} {rows : List WrL} (h : WRow w t g rows) (i : Nat) (hi : i < rows.length) (r : WrL) :
    WRow (((w.setCell ⟨g, i * 3, none⟩ (.string r.key)).setCell ⟨g, i * 3 + 1, none⟩ (.bool r.dead)).setCell ⟨g, i * 3 + 2, none⟩ (.string r.value)) t g (rows.set i r) := by
  unfold WRow at *
  have h1 := heap_setCell_at w g (i * 3) _ t _ (.string r.key) h
  have h2 := heap_setCell_at _ g (i * 3 + 1) _ t _ (.bool r.dead) h1
  have h3 := heap_setCell_at _ g (i * 3 + 2) _ t _ (.string r.value) h2
  rw [h3, ← cellsOf_set rows i hi r]
  simp
def zeroWr : WrL := ⟨⟨#[]⟩, false, ⟨#[]⟩⟩
theorem made_rows (n : Nat) : madeCells #[.string ⟨#[]⟩, .bool false, .string ⟨#[]⟩] (n * 3) = (cellsOf (List.replicate n zeroWr)).toArray := by
  unfold madeCells
  apply Array.ext
  · simp [cellsOf_length]
  · intro i h1 h2
    have h1' : i < n * 3 := by simpa using h1
    have h3 := cellsOf_get (List.replicate n zeroWr) (i / 3) (by simp; omega)
    simp only [List.getElem_replicate] at h3
    simp only [Array.getElem_map, Array.getElem_range]
    have e : i = i / 3 * 3 + i % 3 := by omega
    rcases (by omega : i % 3 = 0 ∨ i % 3 = 1 ∨ i % 3 = 2) with h | h | h
    · have e1 : i / 3 * 3 = i := by omega
      have hq := h3.1
      rw [e1] at hq
      have hv := (List.getElem?_eq_some_iff.1 hq).2
      simp only [List.getElem_toArray, hv]
      rw [show (#[Value.string ⟨#[]⟩, .bool false, .string ⟨#[]⟩] : Array Value).size = 3 from rfl, h]
      rfl
    · have e1 : i / 3 * 3 + 1 = i := by omega
      have hq := h3.2.1
      rw [e1] at hq
      have hv := (List.getElem?_eq_some_iff.1 hq).2
      simp only [List.getElem_toArray, hv]
      rw [show (#[Value.string ⟨#[]⟩, .bool false, .string ⟨#[]⟩] : Array Value).size = 3 from rfl, h]
      rfl
    · have e1 : i / 3 * 3 + 2 = i := by omega
      have hq := h3.2.2
      rw [e1] at hq
      have hv := (List.getElem?_eq_some_iff.1 hq).2
      simp only [List.getElem_toArray, hv]
      rw [show (#[Value.string ⟨#[]⟩, .bool false, .string ⟨#[]⟩] : Array Value).size = 3 from rfl, h]
      rfl
theorem cellsOf_drop (rows : List WrL) (n : Nat) : (cellsOf rows).drop (n * 3) = cellsOf (rows.drop n) := by
  induction rows generalizing n with
  | nil => simp [cellsOf]
  | cons x rows ih =>
    cases n with
    | zero => simp
    | succ n =>
      have hc : cellsOf (x :: rows) = .string x.key :: .bool x.dead :: .string x.value :: cellsOf rows := rfl
      rw [hc, show (n + 1) * 3 = n * 3 + 3 by omega]
      simpa using ih n
section
variable {P : Program}
theorem run_copy_rows (w : World) (dT sT ty elem : TypeId) (g : Nat) (dLen dCap b off sCap : Nat) (rows ws : List WrL) (hu : P.underlying dT = some (.slice elem)) (hs : (P.info? elem).map (·.size) = some 3)
    (hg : WRow w elem g rows) (hd : dLen = rows.length) (hl : ws.length ≤ rows.length) (hc : CellsAt w b off ws) :
    ∃ w', (Builtin.copy_ #[dT, sT] ty #[.slice (some ⟨g, 0, none⟩) dLen dCap, .slice (some ⟨b, off, none⟩) ws.length sCap]).run P w = .ok (goInt ws.length) w' ∧ WRow w' elem g (ws ++ rows.drop ws.length) ∧ w'.heap.size = w.heap.size ∧ (∀ B, B ≤ g → Below B w w') := by
  subst hd
  have hsrc : ∀ j v, (cellsOf ws)[j]? = some v → w.cell? ((⟨b, off, none⟩ : Addr).add j) = some v := by
    intro j v hj
    have hlt : j < ws.length * 3 := by
      have := (List.getElem?_eq_some_iff.1 hj).1
      rwa [cellsOf_length] at this
    obtain ⟨h1, h2, h3⟩ := cellsOf_get ws (j / 3) (by omega)
    obtain ⟨k1, k2, k3⟩ := hc (j / 3) (by omega)
    rw [Addr.add_lit]
    rcases (by omega : j = j / 3 * 3 ∨ j = j / 3 * 3 + 1 ∨ j = j / 3 * 3 + 2) with h | h | h
    · rw [← h] at h1 k1; rw [k1, ← h1, hj]
    · rw [← h] at h2; rw [show off + j / 3 * 3 + 1 = off + j by omega] at k2; rw [k2, ← h2, hj]
    · rw [← h] at h3; rw [show off + j / 3 * 3 + 2 = off + j by omega] at k3; rw [k3, ← h3, hj]
  have h1 : ∀ v ∈ cellsOf ws, v.oneCell' = true := by
    intro v hv
    unfold cellsOf at hv
    rw [List.mem_flatMap] at hv
    obtain ⟨r, _, hr⟩ := hv
    simp only [WrL.cells, List.mem_cons, List.not_mem_nil, or_false] at hr
    rcases hr with rfl | rfl | rfl <;> rfl
  have hl' := run_loadCells_list (P := P) w ⟨b, off, none⟩ (cellsOf ws) hsrc
  have hst := run_storeCells_at P g 0 elem (cellsOf ws) 0 _ w hg (by simp [cellsOf_length]; omega) h1
  rw [cellsOf_length] at hl'
  have hmin : Nat.min ws.length rows.length = ws.length := Nat.min_eq_left hl
  cases hq : P.info? elem with
  | none => simp [hq] at hs
  | some i =>
    have hi : i.size = 3 := by simpa [hq] using hs
    have he : (cellsOf rows).toArray.toList.take (0 + 0) ++ cellsOf ws ++ (cellsOf rows).toArray.toList.drop (0 + 0 + (cellsOf ws).length) = cellsOf (ws ++ rows.drop ws.length) := by
      rw [cellsOf_append, cellsOf_length, ← cellsOf_drop]; simp
    rw [he] at hst
    refine ⟨w.setRow g (cellsOf (ws ++ rows.drop ws.length)).toArray, ?_, ?_, ?_, ?_⟩
    · simp [Builtin.copy_, run_underlying hu, Builtin.lenOf, Builtin.firstCells, sizeOf, typeInfo, hq, hi, hmin, hl', hst]
    · exact setRow_heap w g _ _ elem _ hg
    · simp
    · intro B hB
      exact ⟨rfl, rfl, rfl, by simp, fun k hk => setRow_other w g k _ (by omega)⟩
end
end Go.Proofs.Ytneepapppbchnaa
