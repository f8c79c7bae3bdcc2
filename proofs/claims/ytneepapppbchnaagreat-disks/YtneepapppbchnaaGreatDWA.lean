/- The law's world of disks: what it is, what one call leaves of it; the walk of disk. -/
import Derived.Test.YtneepapppbchnaaGreatDWorld
namespace Go.Proofs.YtneepapppbchnaaGreat
open Go.RowKit
set_option linter.unusedVariables false

def plCells (pls : List (Nat × Nat)) : List Value := pls.flatMap fun p => [.pointer (some ⟨p.1, 0, none⟩), .pointer (some ⟨p.2, 0, none⟩)]
theorem plCells_get (pls : List (Nat × Nat)) (i : Nat) (h : i < pls.length) : (plCells pls)[i * 2]? = some (.pointer (some ⟨pls[i].1, 0, none⟩)) ∧ (plCells pls)[i * 2 + 1]? = some (.pointer (some ⟨pls[i].2, 0, none⟩)) := by
  induction pls generalizing i with
  | nil => simp at h
  | cons p pls ih =>
    have hc : plCells (p :: pls) = .pointer (some ⟨p.1, 0, none⟩) :: .pointer (some ⟨p.2, 0, none⟩) :: plCells pls := rfl
    rw [hc]
    cases i with
    | zero => simp
    | succ i =>
      have := ih i (by simpa using h)
      rw [show (i + 1) * 2 = i * 2 + 2 by omega]
      simpa using this
/-- the law's world lies in block wb: an empty book, the plates, no halls -/
structure WA (w : World) (wb : Nat) (v : Value) (pls : List (Nat × Nat)) (T B : Nat) (P : Nat → Nat → Prop) : Prop where
  c : ∀ i, i < 4 → w.cell? ⟨wb, i, none⟩ = some (.slice none 0 0)
  c4 : w.cell? ⟨wb, 4, none⟩ = some v
  c5 : w.cell? ⟨wb, 5, none⟩ = some (.slice none 0 0)
  fz : ∀ o, w.frozen? ⟨wb, o, none⟩ = false
  row : w.ownsRow 0 100 2 v pls.length (plCells pls)
  pl : ∀ i (h : i < pls.length), ∃ fs, Plate w pls[i].1 pls[i].2 fs T (P i)
  dj : ∀ i j (hi : i < pls.length) (hj : j < pls.length), i ≠ j → ∀ x, (P i x ∨ x = pls[i].2) → ¬ (P j x ∨ x = pls[j].2)
  nb : ∀ i (h : i < pls.length) x, (P i x ∨ x = pls[i].2) → x ≠ wb ∧ v.ownBlock ≠ some x ∧ B ≤ x
  vb : ∀ x, v.ownBlock = some x → x ≠ wb ∧ B ≤ x
  bb : B ≤ wb
theorem WA.wlt {w : World} {wb T B : Nat} {v : Value} {pls : List (Nat × Nat)} {P : Nat → Nat → Prop} (h : WA w wb v pls T B P) : wb < w.heap.size := World.block_lt_of_cell? w _ h.c4
theorem Plate.footlt {w : World} {b r T : Nat} {fs : Nat → Fm} {P : Nat → Prop} (h : Plate w b r fs T P) {x : Nat} (hx : P x ∨ x = r) : x < w.heap.size := by
  rcases hx with q | q
  · exact h.lt x q
  · exact q ▸ h.rlt
/-- the world is as it was where none of its blocks turned -/
theorem WA.kept {w w' : World} {wb T B : Nat} {v : Value} {pls : List (Nat × Nat)} {P : Nat → Nat → Prop} (h : WA w wb v pls T B P) (ho : Only (fun _ => False) w w') : WA w' wb v pls T B P := by
  have eb : w'.heap[wb]? = w.heap[wb]? := ho.block wb h.wlt (fun q => q)
  refine ⟨fun i hi => (World.cell?_of_block eb).trans (h.c i hi), (World.cell?_of_block eb).trans h.c4, (World.cell?_of_block eb).trans h.c5, fun o => (World.frozen?_of_block eb).trans (h.fz o), own_kept h.row fun g hg => ho.block g (World.ownsRow.lt h.row g hg).2 (fun q => q), ?_, h.dj, h.nb, h.vb, h.bb⟩
  intro i hi
  obtain ⟨fs, hp⟩ := h.pl i hi
  exact ⟨fs, hp.kept ho (fun _ _ q => q)⟩
theorem WA.later {w : World} {wb T B : Nat} {v : Value} {pls : List (Nat × Nat)} {P : Nat → Nat → Prop} (h : WA w wb v pls T B P) : WA w wb v pls (T + 1) B P := by
  refine ⟨h.c, h.c4, h.c5, h.fz, h.row, ?_, h.dj, h.nb, h.vb, h.bb⟩
  intro i hi
  obtain ⟨fs, hp⟩ := h.pl i hi
  exact ⟨fs, hp.later (by omega)⟩
/-- one call of one plate -/
theorem WA.moved {w w' : World} {wb T B k : Nat} {v : Value} {pls : List (Nat × Nat)} {P : Nat → Nat → Prop} (h : WA w wb v pls T B P) (hk : k < pls.length) (hm : Moved w w' pls[k].1 pls[k].2 (T + 1) (P k)) : (∃ P', WA w' wb v pls (T + 1) B P') ∧ Below B w w' := by
  obtain ⟨fs, P', h1, h2, h3⟩ := hm
  have hB : B ≤ w.heap.size := Nat.le_trans h.bb (Nat.le_of_lt h.wlt)
  have hnw : ¬ (P k wb ∨ wb = pls[k].2) := fun q => (h.nb k hk wb q).1 rfl
  have eb : w'.heap[wb]? = w.heap[wb]? := h2.block wb h.wlt hnw
  have foot : ∀ x, (P' x ∨ x = pls[k].2) → (P k x ∨ x = pls[k].2) ∨ w.heap.size ≤ x := by
    rintro x (q | q)
    · rcases h3 x q with q | q
      · exact .inl (.inl q)
      · exact .inr q
    · exact .inl (.inr q)
  have lt : ∀ i (hi : i < pls.length) x, (P i x ∨ x = pls[i].2) → x < w.heap.size := by
    intro i hi x hx
    obtain ⟨fs, hp⟩ := h.pl i hi
    exact hp.footlt hx
  refine ⟨⟨upd P k P', ⟨fun i hi => (World.cell?_of_block eb).trans (h.c i hi), (World.cell?_of_block eb).trans h.c4, (World.cell?_of_block eb).trans h.c5, fun o => (World.frozen?_of_block eb).trans (h.fz o), own_kept h.row fun g hg => h2.block g (World.ownsRow.lt h.row g hg).2 (fun q => (h.nb k hk g q).2.1 hg), ?_, ?_, ?_, h.vb, h.bb⟩⟩, h2.below hB (fun x hx => (h.nb k hk x hx).2.2)⟩
  · intro i hi
    by_cases e : i = k
    · subst e; rw [upd_at]; exact ⟨fs, h1⟩
    · rw [upd_ne _ _ e]
      obtain ⟨fs, hp⟩ := h.pl i hi
      have hp2 := hp.kept h2 (fun x hx => h.dj i k hi hk e x hx)
      exact ⟨fs, hp2.later (by omega)⟩
  · intro i j hi hj hne x hx
    by_cases ei : i = k
    · subst ei
      rw [upd_at] at hx
      rw [upd_ne _ _ (Ne.symm hne)]
      rcases foot x hx with q | q
      · exact h.dj i j hi hj hne x q
      · intro hy
        have := lt j hj x hy
        omega
    · rw [upd_ne _ _ ei] at hx
      by_cases ej : j = k
      · subst ej
        rw [upd_at]
        intro hy
        rcases foot x hy with q | q
        · exact h.dj i j hi hj hne x hx q
        · have := lt i hi x hx
          omega
      · rw [upd_ne _ _ ej]
        exact h.dj i j hi hj hne x hx
  · intro i hi x hx
    by_cases ei : i = k
    · subst ei
      rw [upd_at] at hx
      rcases foot x hx with q | q
      · exact h.nb i hi x q
      · have h4 := h.wlt
        refine ⟨by omega, fun e => ?_, by omega⟩
        have := (World.ownsRow.lt h.row x e).2
        omega
    · rw [upd_ne _ _ ei] at hx
      exact h.nb i hi x hx
/-- a plate more -/
theorem WA.more {w w2 w3 : World} {wb T B b r : Nat} {v v' : Value} {pls : List (Nat × Nat)} {P : Nat → Nat → Prop} (h : WA w wb v pls T B P) (hb : w.heap.size ≤ b) (hr : w.heap.size ≤ r) (hbr : b ≠ r) (h2 : Only (fun _ => False) w w2) (hp : Plate w2 b r fm0 T (fun x => x = b))
    (hg : w2.grownBy w3 v.ownBlock) (hn : Newer w2 v v') (hrow : w3.ownsRow 0 100 2 v' (pls.length + 1) (plCells pls ++ [.pointer (some ⟨b, 0, none⟩), .pointer (some ⟨r, 0, none⟩)])) : (∃ P', WA (w3.setCell ⟨wb, 4, none⟩ v') wb v' (pls ++ [(b, r)]) T B P') ∧ Below B w (w3.setCell ⟨wb, 4, none⟩ v') := by
  have hw2 := h.kept h2
  have hB : B ≤ w.heap.size := Nat.le_trans h.bb (Nat.le_of_lt h.wlt)
  have hwl := h.wlt
  have hblt := hp.lt b rfl
  have hrlt := hp.rlt
  have hvw : v.ownBlock ≠ some wb := fun q => (h.vb wb q).1 rfl
  have eb : w3.heap[wb]? = w2.heap[wb]? := hg.block wb hw2.wlt (fun q => hvw q.symm)
  have ho : Only (fun x => x = wb ∨ v.ownBlock = some x) w2 (w3.setCell ⟨wb, 4, none⟩ v') := ((Only.of_grown hg).mono (T := fun x => x = wb ∨ v.ownBlock = some x) (fun x _ q => .inr q)).trans (only_set w3 wb 4 v') (fun x _ q => .inl q)
  have hvb : v.ownBlock ≠ some b := fun q => by have := (World.ownsRow.lt h.row b q).2; omega
  have hvr : v.ownBlock ≠ some r := fun q => by have := (World.ownsRow.lt h.row r q).2; omega
  have hv' : ∀ x, v'.ownBlock = some x → v.ownBlock = some x ∨ w2.heap.size ≤ x := by
    intro x hx
    rcases hn with e | ⟨g, e, hg2⟩
    · exact .inl (e ▸ hx)
    · rw [e] at hx; injection hx with hx; exact .inr (hx ▸ hg2)
  have h2s := h2.size
  have kept : ∀ {b' r' : Nat} {fs : Nat → Fm} {Q : Nat → Prop}, Plate w2 b' r' fs T Q → (∀ x, Q x ∨ x = r' → x ≠ wb ∧ v.ownBlock ≠ some x) → Plate (w3.setCell ⟨wb, 4, none⟩ v') b' r' fs T Q := fun hq hx => hq.kept ho (fun x q e => by
    rcases e with e | e
    · exact (hx x q).1 e
    · exact (hx x q).2 e)
  have lt : ∀ i (hi : i < pls.length) x, (P i x ∨ x = pls[i].2) → x < w.heap.size := by
    intro i hi x hx
    obtain ⟨fs, hp⟩ := h.pl i hi
    exact hp.footlt hx
  refine ⟨⟨upd P pls.length (fun x => x = b), ⟨fun i hi => ?_, set_same _ ((World.cell?_of_block eb).trans hw2.c4), ?_, fun o => ?_, ?_, ?_, ?_, ?_, ?_, h.bb⟩⟩, ?_⟩
  · exact (set_off _ (by omega)).trans ((World.cell?_of_block eb).trans (hw2.c i hi))
  · exact (set_off _ (by omega)).trans ((World.cell?_of_block eb).trans hw2.c5)
  · rw [World.frozen?_setCell]; exact (World.frozen?_of_block eb).trans (hw2.fz o)
  · have e : plCells (pls ++ [(b, r)]) = plCells pls ++ [.pointer (some ⟨b, 0, none⟩), .pointer (some ⟨r, 0, none⟩)] := by unfold plCells; rw [List.flatMap_append]; rfl
    rw [e, List.length_append]
    refine own_kept hrow fun g hg2 => Below.heap_setCell w3 _ _ g ?_
    intro e2
    have e3 : g = wb := e2
    rcases hv' g hg2 with q | q
    · exact hvw (e3 ▸ q)
    · omega
  · intro i hi
    by_cases e : i < pls.length
    · have hne : i ≠ pls.length := by omega
      rw [upd_ne _ _ hne]
      simp only [List.getElem_append_left e]
      obtain ⟨fs, hq⟩ := hw2.pl i e
      exact ⟨fs, kept hq fun x hx => ⟨(h.nb i e x hx).1, (h.nb i e x hx).2.1⟩⟩
    · have e2 : i = pls.length := by simp at hi; omega
      subst e2
      rw [upd_at]
      simp only [List.getElem_concat_length]
      refine ⟨fm0, kept hp fun x hx => ?_⟩
      rcases hx with q | q
      · subst q; exact ⟨by omega, hvb⟩
      · subst q; exact ⟨by omega, hvr⟩
  · intro i j hi hj hne x hx
    by_cases ei : i < pls.length
    · have hx' : P i x ∨ x = pls[i].2 := by
        rw [upd_ne _ _ (by omega)] at hx
        simpa only [List.getElem_append_left ei] using hx
      have hxl := lt i ei x hx'
      by_cases ej : j < pls.length
      · rw [upd_ne _ _ (by omega)]
        simp only [List.getElem_append_left ej]
        exact h.dj i j ei ej hne x hx'
      · have e2 : j = pls.length := by simp at hj; omega
        subst e2
        rw [upd_at]
        simp only [List.getElem_concat_length]
        rintro (q | q) <;> omega
    · have e2 : i = pls.length := by simp at hi; omega
      subst e2
      rw [upd_at] at hx
      simp only [List.getElem_concat_length] at hx
      have ej : j < pls.length := by simp at hj; omega
      rw [upd_ne _ _ (by omega)]
      simp only [List.getElem_append_left ej]
      intro hy
      have := lt j ej x hy
      rcases hx with q | q <;> omega
  · intro i hi x hx
    by_cases ei : i < pls.length
    · have hx' : P i x ∨ x = pls[i].2 := by
        rw [upd_ne _ _ (by omega)] at hx
        simpa only [List.getElem_append_left ei] using hx
      have hxl := lt i ei x hx'
      refine ⟨(h.nb i ei x hx').1, fun q => ?_, (h.nb i ei x hx').2.2⟩
      rcases hv' x q with q | q
      · exact (h.nb i ei x hx').2.1 q
      · omega
    · have e2 : i = pls.length := by simp at hi; omega
      subst e2
      rw [upd_at] at hx
      simp only [List.getElem_concat_length] at hx
      have hx2 : x = b ∨ x = r := hx
      refine ⟨by omega, fun q => ?_, by omega⟩
      rcases hv' x q with q | q
      · rcases hx2 with e | e
        · exact hvb (e ▸ q)
        · exact hvr (e ▸ q)
      · omega
  · intro x hx
    rcases hv' x hx with q | q
    · exact h.vb x q
    · exact ⟨by omega, by omega⟩
  · refine Only.below ((h2.mono (T := fun x => x = wb ∨ v.ownBlock = some x) (fun _ _ q => q.elim)).trans ho (fun _ _ q => q)) hB ?_
    rintro x (q | q)
    · exact q ▸ h.bb
    · exact (h.vb x q).2
end Go.Proofs.YtneepapppbchnaaGreat
