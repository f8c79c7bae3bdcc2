/- The program's disk: its cells and rows; the walks of Append, Sync, Cut, Read, Trouble. -/
import Derived.Test.YtneepapppbchnaaGreatDRef4
namespace Go.Proofs.YtneepapppbchnaaGreat
open Go.RowKit
set_option linter.unusedVariables false
variable {tk : Nat}

def cellP (v : Value) (m : Fm) : Nat → Value
  | 0 => v
  | 1 => .int .i64 (m.lasts.length : Int)
  | _ => .int .i64 (m.left : Int)
/-- the program's disk lies in block b; its files' bytes lie in blocks of P, each in its own -/
structure PD (tk : Nat) (w : World) (b : Nat) (vs : Nat → Value) (fs : Nat → Fm) (P : Nat → Prop) : Prop where
  c : ∀ k, k < 7 → ∀ j, j < 3 → w.cell? ⟨b, k * 3 + j, none⟩ = some (cellP (vs k) (fs k) j)
  hc : w.cell? ⟨b, 21, none⟩ = some (.int .i64 (tk : Int))
  fz : ∀ o, w.frozen? ⟨b, o, none⟩ = false
  row : ∀ k, k < 7 → Bd w (vs k) (fs k).bytes
  pb : P b
  lt : ∀ x, P x → x < w.heap.size
  pv : ∀ k, k < 7 → ∀ x, (vs k).ownBlock = some x → P x ∧ x ≠ b
  pd : ∀ j k, j < 7 → k < 7 → j ≠ k → ∀ x, (vs j).ownBlock = some x → (vs k).ownBlock ≠ some x
def PX (tk : Nat) (w w' : World) (b : Nat) (fs : Nat → Fm) (P : Nat → Prop) : Prop := ∃ vs P', PD tk w' b vs fs P' ∧ Only P w w' ∧ ∀ x, P' x → P x ∨ w.heap.size ≤ x
theorem PX.trans {w w1 w2 : World} {b : Nat} {fs : Nat → Fm} {P P1 : Nat → Prop} (ho : Only P w w1) (hp : ∀ x, P1 x → P x ∨ w.heap.size ≤ x) (h : PX tk w1 w2 b fs P1) : PX tk w w2 b fs P := by
  obtain ⟨vs, P', h1, h2, h3⟩ := h
  refine ⟨vs, P', h1, ho.trans h2 (fun x hx q => ?_), fun x hx => ?_⟩
  · rcases hp x q with q | q
    · exact q
    · omega
  · rcases h3 x hx with q | q
    · exact hp x q
    · exact .inr (Nat.le_trans ho.size q)
theorem PD.stay {w : World} {b : Nat} {vs : Nat → Value} {fs : Nat → Fm} {P : Nat → Prop} (h : PD tk w b vs fs P) : PX tk w w b fs P := ⟨vs, P, h, Only.refl _ _, fun _ q => .inl q⟩
theorem PD.turned {w w' : World} {b k : Nat} {vs : Nat → Value} {fs : Nat → Fm} {P : Nat → Prop} (h : PD tk w b vs fs P) (hk : k < 7) (v : Value) (m : Fm) (ho : Only (fun x => x = b ∨ (vs k).ownBlock = some x) w w')
    (hc : ∀ o, (o < k * 3 ∨ k * 3 + 3 ≤ o) → w'.cell? ⟨b, o, none⟩ = w.cell? ⟨b, o, none⟩) (hn : ∀ j, j < 3 → w'.cell? ⟨b, k * 3 + j, none⟩ = some (cellP v m j)) (hf : ∀ o, w'.frozen? ⟨b, o, none⟩ = w.frozen? ⟨b, o, none⟩)
    (hrow : Bd w' v m.bytes) (hnew : Newer w (vs k) v) : PX tk w w' b (upd fs k m) P := by
  have hblt : b < w.heap.size := h.lt b h.pb
  refine ⟨upd vs k v, fun x => P x ∨ v.ownBlock = some x, ⟨?_, (hc 21 (by omega)).trans h.hc, fun o => (hf o).trans (h.fz o), ?_, .inl h.pb, ?_, ?_, ?_⟩, ho.mono ?_, ?_⟩
  · intro k' hk' j hj
    by_cases e : k' = k
    · subst e; rw [upd_at, upd_at]; exact hn j hj
    · rw [upd_ne _ _ e, upd_ne _ _ e, hc _ (by omega)]; exact h.c k' hk' j hj
  · intro k' hk'
    by_cases e : k' = k
    · subst e; rw [upd_at, upd_at]; exact hrow
    · rw [upd_ne _ _ e, upd_ne _ _ e]
      refine own_kept (h.row k' hk') fun g hg => ho.block g (h.lt g (h.pv k' hk' g hg).1) ?_
      rintro (q | q)
      · exact (h.pv k' hk' g hg).2 q
      · exact h.pd k' k hk' hk e g hg q
  · rintro x (q | q)
    · exact Nat.lt_of_lt_of_le (h.lt x q) ho.size
    · exact (World.ownsRow.lt hrow x q).2
  · intro k' hk' x hx
    by_cases e : k' = k
    · subst e
      rw [upd_at] at hx
      refine ⟨.inr hx, ?_⟩
      rcases hnew with q | ⟨g, q, hg⟩
      · exact (h.pv k' hk x (q ▸ hx)).2
      · rw [q] at hx; injection hx with hx; omega
    · rw [upd_ne _ _ e] at hx
      exact ⟨.inl (h.pv k' hk' x hx).1, (h.pv k' hk' x hx).2⟩
  · intro i j hi hj hne x hx
    by_cases ei : i = k
    · subst ei
      rw [upd_at] at hx
      rw [upd_ne _ _ (Ne.symm hne)]
      intro hy
      rcases hnew with q | ⟨g, q, hg⟩
      · exact h.pd i j hi hj hne x (q ▸ hx) hy
      · rw [q] at hx; injection hx with hx
        have := h.lt x (h.pv j hj x hy).1
        omega
    · rw [upd_ne _ _ ei] at hx
      by_cases ej : j = k
      · subst ej
        rw [upd_at]
        intro hy
        rcases hnew with q | ⟨g, q, hg⟩
        · exact h.pd i j hi hj hne x hx (q ▸ hy)
        · rw [q] at hy; injection hy with hy
          have := h.lt x (h.pv i hi x hx).1
          omega
      · rw [upd_ne _ _ ej]
        exact h.pd i j hi hj hne x hx
  · rintro x _ (q | q)
    · exact q ▸ h.pb
    · exact (h.pv k hk x q).1
  · rintro x (q | q)
    · exact .inl q
    · rcases hnew with e | ⟨g, e, hg⟩
      · exact .inl (h.pv k hk x (e ▸ q)).1
      · rw [e] at q; injection q with q; exact .inr (by omega)
theorem left_fails (m : Fm) : m.fails ↔ m.left = 1 := by unfold Fm.fails Fm.left; omega
theorem tick_left (m : Fm) : m.tick.left = m.left - 1 := by unfold Fm.tick Fm.left; dsimp only; omega
theorem PD.c0 {w : World} {b : Nat} {vs : Nat → Value} {fs : Nat → Fm} {P : Nat → Prop} (h : PD tk w b vs fs P) {k : Nat} (hk : k < 7) : w.cell? ⟨b, k * 3, none⟩ = some (vs k) := h.c k hk 0 (by omega)
theorem PD.c1 {w : World} {b : Nat} {vs : Nat → Value} {fs : Nat → Fm} {P : Nat → Prop} (h : PD tk w b vs fs P) {k : Nat} (hk : k < 7) : w.cell? ⟨b, k * 3 + 1, none⟩ = some (.int .i64 ((fs k).lasts.length : Int)) := h.c k hk 1 (by omega)
theorem PD.c2 {w : World} {b : Nat} {vs : Nat → Value} {fs : Nat → Fm} {P : Nat → Prop} (h : PD tk w b vs fs P) {k : Nat} (hk : k < 7) : w.cell? ⟨b, k * 3 + 2, none⟩ = some (.int .i64 ((fs k).left : Int)) := h.c k hk 2 (by omega)
theorem only_box {w : World} (b o : Nat) (v : Value) (r : Option Nat) : Only (fun x => x = b ∨ r = some x) w (w.setCell ⟨b, o, none⟩ v) := (only_set w b o v).mono (fun _ _ q => .inl q)
/-- the cell of the count alone -/
theorem PD.count {w : World} {b k : Nat} {vs : Nat → Value} {fs : Nat → Fm} {P : Nat → Prop} (h : PD tk w b vs fs P) (hk : k < 7) (m : Fm) (hl : m.lasts = (fs k).lasts) (ha : m.late = (fs k).late) : PX tk w (w.setCell ⟨b, k * 3 + 2, none⟩ (.int .i64 (m.left : Int))) b (upd fs k m) P := by
  refine h.turned hk (vs k) m (only_box _ _ _ _) (fun o ho => set_off _ (by omega)) ?_ (fun o => World.frozen?_setCell ..) ?_ (Newer.refl _ _)
  · intro j hj
    match j, hj with
    | 0, _ => exact (set_off _ (by omega)).trans (h.c0 hk)
    | 1, _ => exact (set_off _ (by omega)).trans ((h.c1 hk).trans (by simp only [cellP, hl]))
    | 2, _ => exact set_same _ (h.c2 hk)
  · have e : m.bytes = (fs k).bytes := by unfold Fm.bytes; rw [hl, ha]
    rw [e]
    exact own_kept (h.row k hk) fun g hg => Below.heap_setCell w _ _ g (h.pv k hk g hg).2
theorem PD.ticked {w w' : World} {b k : Nat} {vs : Nat → Value} {fs : Nat → Fm} {P : Nat → Prop} (h : PD tk w b vs fs P) (hk : k < 7) (ht : Ticked w b (k * 3) (fs k).left w') : PX tk w w' b (upd fs k (fs k).tick) P := by
  rcases ht with ⟨h0, rfl⟩ | ⟨h0, rfl⟩
  · refine ⟨vs, P, ⟨?_, h.hc, h.fz, ?_, h.pb, h.lt, h.pv, h.pd⟩, Only.refl _ _, fun _ q => .inl q⟩
    · intro k' hk' j hj
      by_cases e : k' = k
      · subst e
        rw [upd_at]
        match j, hj with
        | 0, _ => exact h.c0 hk
        | 1, _ => exact h.c1 hk
        | 2, _ => rw [show cellP (vs k') (fs k').tick 2 = .int .i64 ((fs k').tick.left : Int) from rfl, tick_left, h0]; exact (h.c2 hk).trans (by rw [h0])
      · rw [upd_ne _ _ e]; exact h.c k' hk' j hj
    · intro k' hk'
      by_cases e : k' = k
      · subst e; rw [upd_at]; exact h.row k' hk
      · rw [upd_ne _ _ e]; exact h.row k' hk'
  · have := h.count hk (fs k).tick rfl rfl
    rw [tick_left] at this
    exact this
theorem PD.grown {w w1 w' : World} {b k : Nat} {vs : Nat → Value} {fs : Nat → Fm} {P : Nat → Prop} (h : PD tk w b vs fs P) (hk : k < 7) (v : Value) (m : Fm) (hg : w.grownBy w1 (vs k).ownBlock) (ho : Only (fun x => x = b) w1 w')
    (hc : ∀ o, (o < k * 3 ∨ k * 3 + 3 ≤ o) → w'.cell? ⟨b, o, none⟩ = w1.cell? ⟨b, o, none⟩) (hf : ∀ o, w'.frozen? ⟨b, o, none⟩ = w1.frozen? ⟨b, o, none⟩)
    (hn : (∀ j, j < 3 → w1.cell? ⟨b, k * 3 + j, none⟩ = some (cellP (vs k) (fs k) j)) → ∀ j, j < 3 → w'.cell? ⟨b, k * 3 + j, none⟩ = some (cellP v m j))
    (hrow : Bd w1 v m.bytes) (hnew : Newer w (vs k) v) : PX tk w w' b (upd fs k m) P := by
  have hblt : b < w.heap.size := h.lt b h.pb
  have hne : (vs k).ownBlock ≠ some b := fun q => (h.pv k hk b q).2 rfl
  have hb : w1.heap[b]? = w.heap[b]? := hg.block b hblt (fun q => hne q.symm)
  refine h.turned hk v m ?_ (fun o h2 => (hc o h2).trans (World.cell?_of_block hb)) (hn fun j hj => (World.cell?_of_block hb).trans (h.c k hk j hj)) (fun o => (hf o).trans (World.frozen?_of_block hb)) ?_ hnew
  · refine ((Only.of_grown hg).mono (T := fun x => x = b ∨ (vs k).ownBlock = some x) (fun x _ q => .inr q)).trans ho (fun x _ q => .inl q)
  · refine own_kept hrow fun g hg2 => ho.block g (World.ownsRow.lt hrow g hg2).2 ?_
    intro q
    subst q
    rcases hnew with e | ⟨g', e, hg'⟩
    · exact hne (e ▸ hg2)
    · rw [e] at hg2; injection hg2 with hg2; omega
end Go.Proofs.YtneepapppbchnaaGreat
