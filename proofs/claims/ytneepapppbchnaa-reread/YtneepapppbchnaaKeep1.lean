/- The walk of keepWrites. -/
import Derived.Test.YtneepapppbchnaaKeep0
namespace Go.Proofs.Ytneepapppbchnaa
open Go.RowKit
set_option linter.unusedVariables false

theorem src_alloc {P : Program} (w : World) (size : Nat) (t e ty : TypeId) (ht : P.underlying t = some (.slice e)) (n c : Nat) (xs : Array Value) (hlen : xs.size = n * size) (h1 : xs.toList.all (fun u => u.oneCell') = true) :
    Src P size t (.slice (some ⟨w.heap.size, 0, none⟩) n c) n xs.toList (w.alloc (.cells xs ty)) :=
  Src.ofSlice _ ht ⟨w.heap.size, 0, none⟩ n c xs.toList (by simpa using hlen) (fun j u hj => by
    have h := heap_alloc_new w (.cells xs ty)
    simp only [World.cell?, Addr.add_lit, h, Nat.zero_add]
    simpa using hj) (List.all_eq_true.1 h1)
theorem mem_four {v a b c d : Value} (h : v ∈ [a, b, c, d]) : v = a ∨ v = b ∨ v = c ∨ v = d := by simpa using h
/-- the four lists stand in the book -/
theorem keep_end {w w4 w5 : World} {o : Obj} {bk : Nat} {vw vr l g1 g2 g3 u : Value} {W R : List Value} {P : Nat → Prop} {n : Nat} (hb : BookAt w bk vw vr W R P) (h4 : W.length % 4 = 0) (hoL : Only (fun x => l.ownBlock = some x) w w4) (hlP : ∀ x, l.ownBlock = some x → ¬ P x)
    (f0 : Full w4 l (markW W.length) n) (f1 : Full w4 g1 (markW W.length) (n + 1)) (f2 : Full w4 g2 (markW W.length) (n + 2)) (f3 : Full w4 g3 (markW W.length) (n + 3)) (hn : n ≤ 1000000)
    (b1 : ∀ x, g1.ownBlock = some x → l.ownBlock = some x ∨ w.heap.size ≤ x) (b2 : ∀ x, g2.ownBlock = some x → l.ownBlock = some x ∨ w.heap.size ≤ x) (b3 : ∀ x, g3.ownBlock = some x → l.ownBlock = some x ∨ w.heap.size ≤ x)
    (hown : w5.ownsRow 0 30 1 u (W.length + 4) (W ++ [l, g1, g2, g3])) (hgr : (w4.alloc o).grownBy w5 vw.ownBlock) (bes : Beside (w4.alloc o) w5 vw u) :
    BookAt (w5.setCell ⟨bk, 0, none⟩ u) bk u vr (W ++ [l, g1, g2, g3]) R (fun x => P x ∨ l.ownBlock = some x ∨ w.heap.size ≤ x) ∧ Only (fun x => P x ∨ l.ownBlock = some x) w (w5.setCell ⟨bk, 0, none⟩ u) := by
  have hb4 := hb.kept hoL (fun x hx => hlP x hx)
  have hs4 : w.heap.size ≤ w4.heap.size := hoL.size
  have hs5 : w4.heap.size + 1 ≤ w5.heap.size := by have := hgr.size; simpa using this
  have hbk := hb.blt
  have fin5 : ∀ x, x < w4.heap.size → vw.ownBlock ≠ some x → w5.heap[x]? = w4.heap[x]? := fun x hx hne => (hgr.block x (by simp; omega) (fun e => hne e.symm)).trans (Below.heap_alloc _ _ _ hx)
  have fin : ∀ x, x < w4.heap.size → x ≠ bk → vw.ownBlock ≠ some x → (w5.setCell ⟨bk, 0, none⟩ u).heap[x]? = w4.heap[x]? := fun x hx h1 h2 => (Below.heap_setCell w5 _ u x h1).trans (fin5 x hx h2)
  have hu : ∀ x, u.ownBlock = some x → vw.ownBlock = some x ∨ x = w4.heap.size + 1 := by
    intro x hx
    rcases bes with ⟨e, _⟩ | ⟨e, _⟩
    · rw [e] at hx; exact .inl hx
    · rw [e] at hx; injection hx with hx; simp at hx; exact .inr (by omega)
  have hvwb : vw.ownBlock ≠ some bk := fun e => (hb.pw bk e).2.1 rfl
  have hwlt : ∀ x, vw.ownBlock = some x → x < w.heap.size := fun x hx => (World.ownsRow.lt hb.roww x hx).2
  have hrlt : ∀ x, vr.ownBlock = some x → x < w.heap.size := fun x hx => (World.ownsRow.lt hb.rowr x hx).2
  have four : ∀ v ∈ [l, g1, g2, g3], (∀ x, v.ownBlock = some x → l.ownBlock = some x ∨ w.heap.size ≤ x) ∧ ∃ k, k ≤ n + 3 ∧ Full w4 v (markW W.length) k := by
    intro v hv
    rcases mem_four hv with rfl | rfl | rfl | rfl
    · exact ⟨fun x hx => .inl hx, n, by omega, f0⟩
    · exact ⟨b1, n + 1, by omega, f1⟩
    · exact ⟨b2, n + 2, by omega, f2⟩
    · exact ⟨b3, n + 3, by omega, f3⟩
  have fourx : ∀ v ∈ [l, g1, g2, g3], ∀ x, v.ownBlock = some x → x ≠ bk ∧ vw.ownBlock ≠ some x ∧ vr.ownBlock ≠ some x ∧ x < w4.heap.size := by
    intro v hv x hx
    obtain ⟨hbx, k, _, hf⟩ := four v hv
    have hlt := hf.lt x hx
    rcases hbx x hx with h1 | h1
    · have hnp := hlP x h1
      exact ⟨fun e => hnp (e ▸ hb.pb), fun e => hnp (hb.pw x e).1, fun e => hnp (hb.pr x e).1, hlt⟩
    · exact ⟨by omega, fun e => by have := hwlt x e; omega, fun e => by have := hrlt x e; omega, hlt⟩
  refine ⟨⟨?_, ?_, ?_, .inl hb.pb, ?_, ?_, ?_, ?_, ?_⟩, ?_⟩
  · have h5 : w5.heap[bk]? = some (.cells #[vw, .slice none 0 0, .slice none 0 0, vr] 40 (0, 0)) := (fin5 bk (by omega) hvwb).trans hb4.box
    rw [heap_setCell_at w5 bk 0 _ _ _ _ h5]; rfl
  · rw [List.length_append]
    refine own_kept hown fun g hg => Below.heap_setCell w5 _ u g ?_
    show g ≠ bk
    rcases hu g hg with h1 | h1
    · exact fun e => hvwb (e ▸ h1)
    · omega
  · exact own_kept hb4.rowr fun g hg => fin g (World.ownsRow.lt hb4.rowr g hg).2 (hb.pr g hg).2 (fun e => (hb.pw g e).2.2 hg)
  · intro x hx
    rcases hu x hx with h1 | h1
    · exact ⟨.inl (hb.pw x h1).1, (hb.pw x h1).2⟩
    · exact ⟨.inr (.inr (by omega)), by omega, fun e => by have := hrlt x e; omega⟩
  · intro x hx
    exact ⟨.inl (hb.pr x hx).1, (hb.pr x hx).2⟩
  · intro v hv x hx
    rw [List.append_assoc, List.mem_append, List.mem_append] at hv
    rcases hv with hv | hv | hv
    · obtain ⟨h1, h2, h3, h5⟩ := hb.each v (List.mem_append.2 (.inl hv)) x hx
      refine ⟨.inl h1, h2, fun e => ?_, h5⟩
      rcases hu x e with q | q
      · exact h3 q
      · obtain ⟨i, hi, rfl⟩ := List.getElem_of_mem hv
        obtain ⟨k, _, hf⟩ := hb4.fw i hi
        have := hf.lt x hx; omega
    · obtain ⟨h2, h3, h5, h6⟩ := fourx v hv x hx
      refine ⟨?_, h2, fun e => ?_, h5⟩
      · rcases (four v hv).1 x hx with q | q
        · exact .inr (.inl q)
        · exact .inr (.inr q)
      · rcases hu x e with q | q
        · exact h3 q
        · omega
    · obtain ⟨h1, h2, h3, h5⟩ := hb.each v (List.mem_append.2 (.inr hv)) x hx
      refine ⟨.inl h1, h2, fun e => ?_, h5⟩
      rcases hu x e with q | q
      · exact h3 q
      · obtain ⟨i, hi, rfl⟩ := List.getElem_of_mem hv
        obtain ⟨k, _, hf⟩ := hb4.fr i hi
        have := hf.lt x hx; omega
  · intro i hi
    have hsz : w4.heap.size ≤ (w5.setCell ⟨bk, 0, none⟩ u).heap.size := by simp; omega
    by_cases hlt : i < W.length
    · rw [List.getElem_append_left hlt]
      obtain ⟨k, hk, hf⟩ := hb4.fw i hlt
      refine ⟨k, hk, hf.kept hsz fun g hg => ?_⟩
      obtain ⟨_, q2, q3, _⟩ := hb.each W[i] (List.mem_append.2 (.inl (List.getElem_mem hlt))) g hg
      exact fin g (hf.lt g hg) q2 q3
    · have hi4 : i - W.length < 4 := by simp at hi; omega
      rw [List.getElem_append_right (by omega)]
      have hmem : [l, g1, g2, g3][i - W.length]'(by simpa using hi4) ∈ [l, g1, g2, g3] := List.getElem_mem _
      obtain ⟨_, k, hk, hf⟩ := four _ hmem
      refine ⟨k, by omega, ?_⟩
      rw [show i / 4 * 4 = W.length by omega]
      refine hf.kept hsz fun g hg => ?_
      obtain ⟨q1, q2, _, q4⟩ := fourx _ hmem g hg
      exact fin g q4 q1 q2
  · intro i hi
    have hsz : w4.heap.size ≤ (w5.setCell ⟨bk, 0, none⟩ u).heap.size := by simp; omega
    obtain ⟨k, hk, hf⟩ := hb4.fr i hi
    refine ⟨k, hk, hf.kept hsz fun g hg => ?_⟩
    obtain ⟨_, q2, q3, _⟩ := hb.each R[i] (List.mem_append.2 (.inr (List.getElem_mem hi))) g hg
    exact fin g (hf.lt g hg) q2 q3
  · refine ⟨?_, ?_, ?_, by simp; omega, fun k hk hn => ?_⟩
    · exact (show (w5.setCell ⟨bk, 0, none⟩ u).os = w5.os from rfl).trans (hgr.os.trans hoL.os)
    · exact (show (w5.setCell ⟨bk, 0, none⟩ u).tape = w5.tape from rfl).trans (hgr.tape.trans hoL.tape)
    · exact (show (w5.setCell ⟨bk, 0, none⟩ u).output = w5.output from rfl).trans (hgr.output.trans hoL.output)
    · rw [fin k (by omega) (fun e => hn (.inl (e ▸ hb.pb))) (fun e => hn (.inl (hb.pw k e).1))]
      exact hoL.block k hk (fun e => hn (.inr e))
end Go.Proofs.Ytneepapppbchnaa
