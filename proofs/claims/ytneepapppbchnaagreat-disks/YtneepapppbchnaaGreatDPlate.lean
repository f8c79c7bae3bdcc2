/- A disk of the program beside the document's: one call of both. -/
import Derived.Test.YtneepapppbchnaaGreatDDisk3
namespace Go.Proofs.YtneepapppbchnaaGreat
open Go.RowKit
set_option linter.unusedVariables false
variable {tk : Nat}

/-- a file within its bounds, at most T turns ago -/
def Fm.fineT (T : Nat) (m : Fm) : Prop := m.bytes.length ≤ 2000 ∧ m.turns ≤ T ∧ m.due < 9223372036854775808
theorem Fm.fineT.fine {T : Nat} {m : Fm} (h : m.fineT T) (hT : T < 4611686018427387904) : m.fine := ⟨h.1, Nat.lt_of_le_of_lt h.2.1 hT, h.2.2⟩
theorem fineT_mono {T T' : Nat} {m : Fm} (h : m.fineT T) (hT : T ≤ T') : m.fineT T' := ⟨h.1, Nat.le_trans h.2.1 hT, h.2.2⟩
theorem fineT_tick {T : Nat} {m : Fm} (h : m.fineT T) : m.tick.fineT (T + 1) := ⟨h.1, Nat.succ_le_succ h.2.1, h.2.2⟩
theorem fineT_app {T : Nat} {m : Fm} (s : List UInt8) (h : m.fineT T) : (appF m s).2.fineT (T + 1) := by
  unfold appF
  split
  · exact fineT_tick h
  · split
    · exact fineT_tick h
    · rename_i h1
      refine ⟨?_, Nat.succ_le_succ h.2.1, h.2.2⟩
      unfold Fm.bytes at h1 ⊢
      dsimp only [Fm.tick]
      rw [List.length_append] at h1 ⊢
      rw [List.length_append]
      omega
theorem fineT_sync {T : Nat} {m : Fm} (h : m.fineT T) : (syncF m).2.fineT (T + 1) := by
  unfold syncF
  split
  · exact fineT_tick h
  · refine ⟨?_, Nat.succ_le_succ h.2.1, h.2.2⟩
    have e : m.tick.all.bytes = m.bytes := List.append_nil _
    dsimp only
    rw [e]; exact h.1
theorem fineT_cut {T : Nat} {m : Fm} (n : Int) (h : m.fineT T) : (cutF m n).2.fineT (T + 1) := by
  unfold cutF
  split
  · exact fineT_tick h
  · split
    · exact fineT_tick h
    · refine ⟨?_, Nat.succ_le_succ h.2.1, h.2.2⟩
      have e : Fm.bytes { m.tick with lasts := m.bytes.take n.toNat, late := [] } = m.bytes.take n.toNat := List.append_nil _
      dsimp only
      rw [e, List.length_take]
      have := h.1
      omega
theorem fineT_trouble {T : Nat} {m : Fm} (n : Int) (hn : n < 9223372036854775808) (h : m.fineT T) : (troubleF m n).2.fineT (T + 1) := by
  unfold troubleF
  split
  · exact fineT_mono h (by omega)
  · exact ⟨h.1, Nat.zero_le _, by dsimp only; omega⟩
theorem fineT_crash {T : Nat} {m : Fm} (keep : Int) (junk : List UInt8) (h : m.fineT T) : (m.crash keep junk).fineT (T + 1) := by
  refine ⟨?_, Nat.le_succ_of_le h.2.1, by show (0 : Nat) < _; omega⟩
  have e : (m.crash keep junk).bytes = (m.crash keep junk).lasts := List.append_nil _
  rw [e]
  have := h.1
  unfold Fm.bytes at this
  rw [List.length_append] at this
  unfold Fm.crash keptN
  simp only [List.length_append, List.length_take]
  omega
theorem fineT_upd {T : Nat} {fs : Nat → Fm} {k : Nat} {m : Fm} (h : ∀ j, j < 7 → (fs j).fineT T) (hm : m.fineT (T + 1)) : ∀ j, j < 7 → (upd fs k m j).fineT (T + 1) := by
  intro j hj
  unfold upd
  split
  · exact hm
  · exact fineT_mono (h j hj) (by omega)
theorem PD.kept {w w' : World} {b : Nat} {vs : Nat → Value} {fs : Nat → Fm} {P S : Nat → Prop} (h : PD tk w b vs fs P) (ho : Only S w w') (hd : ∀ x, P x → ¬ S x) : PD tk w' b vs fs P := by
  have e : ∀ x, P x → w'.heap[x]? = w.heap[x]? := fun x hx => ho.block x (h.lt x hx) (hd x hx)
  have eb := e b h.pb
  exact ⟨fun k hk j hj => (World.cell?_of_block eb).trans (h.c k hk j hj), (World.cell?_of_block eb).trans h.hc, fun o => (World.frozen?_of_block eb).trans (h.fz o), fun k hk => own_kept (h.row k hk) fun g hg => e g (h.pv k hk g hg).1, h.pb, fun x hx => Nat.lt_of_lt_of_le (h.lt x hx) ho.size, h.pv, h.pd⟩
/-- a disk of the program in block b, the document's in block r: both hold the same files -/
structure Plate (w : World) (b r : Nat) (fs : Nat → Fm) (T : Nat) (P : Nat → Prop) : Prop where
  pd : ∃ tk vs, PD tk w b vs fs P ∧ tk ≤ T
  rd : ∃ us st, RD w r fs us st
  nr : ¬ P r
  fine : ∀ k, k < 7 → (fs k).fineT T
theorem Plate.kept {w w' : World} {b r T : Nat} {fs : Nat → Fm} {P S : Nat → Prop} (h : Plate w b r fs T P) (ho : Only S w w') (hd : ∀ x, P x ∨ x = r → ¬ S x) : Plate w' b r fs T P := by
  obtain ⟨tk, vs, h1, ht⟩ := h.pd
  obtain ⟨us, st, h2⟩ := h.rd
  exact ⟨⟨tk, vs, h1.kept ho (fun x hx => hd x (.inl hx)), ht⟩, ⟨us, st, h2.kept ho (hd r (.inr rfl))⟩, h.nr, h.fine⟩
/-- behind one call: what became of the plate -/
def Moved (w w' : World) (b r T : Nat) (P : Nat → Prop) : Prop := ∃ fs P', Plate w' b r fs T P' ∧ Only (fun x => P x ∨ x = r) w w' ∧ ∀ x, P' x → P x ∨ w.heap.size ≤ x
theorem Plate.moved {w w1 w2 : World} {b r T : Nat} {fs fs' : Nat → Fm} {P : Nat → Prop} (h : Plate w b r fs T P) (hf : ∀ k, k < 7 → (fs' k).fineT (T + 1)) (ht : tk ≤ T + 1) (h1 : PX tk w w1 b fs' P) (h2 : (∀ us st, RD w r fs us st → RD w1 r fs us st) → ∃ us st, RD w2 r fs' us st) (h3 : Only (fun x => x = r) w1 w2) : Moved w w2 b r (T + 1) P := by
  obtain ⟨us, st, hr⟩ := h.rd
  obtain ⟨vs, P', q1, q2, q3⟩ := h1
  have hrl := hr.lt
  have hnr : ¬ P' r := fun hp => by
    rcases q3 r hp with q | q
    · exact h.nr q
    · omega
  refine ⟨fs', P', ⟨⟨tk, vs, q1.kept h3 (fun x hx e => hnr (e ▸ hx)), ht⟩, h2 fun us st hr => hr.kept q2 h.nr, hnr, hf⟩, ?_, q3⟩
  exact (q2.mono (T := fun x => P x ∨ x = r) (fun x _ q => .inl q)).trans h3 (fun x _ e => .inr e)
theorem Plate.later {w : World} {b r T T' : Nat} {fs : Nat → Fm} {P : Nat → Prop} (h : Plate w b r fs T P) (ht : T ≤ T') : Plate w b r fs T' P := by
  obtain ⟨tk, vs, h1, h2⟩ := h.pd
  exact ⟨⟨tk, vs, h1, by omega⟩, h.rd, h.nr, fun k hk => fineT_mono (h.fine k hk) ht⟩
theorem Plate.still {w w' : World} {b r T : Nat} {fs : Nat → Fm} {P : Nat → Prop} (h : Plate w b r fs T P) (hl : Only (fun _ => False) w w') : Moved w w' b r (T + 1) P := by
  have h' := h.kept hl (fun _ _ q => q)
  exact ⟨fs, P, h'.later (by omega), hl.mono (fun _ _ q => q.elim), fun x q => .inl q⟩
theorem num_any (n : Int) (w : World) : Calls Tryz.prog 83 #[.int .i64 n] w fun e w' => e = .returned (.int .i64 n) ∧ w' = w := by
  go_enter Tryz.func83, Tryz.ntmps83
  go_wp2_with fail
  go_ret
  exact ⟨rfl, rfl⟩
end Go.Proofs.YtneepapppbchnaaGreat
