/- The book while a list of records is being kept. No walk here. -/
import Derived.Test.YtneepapppbchnaaKeep2
namespace Go.Proofs.Ytneepapppbchnaa
open Go.RowKit
set_option linter.unusedVariables false

/-- the book, but for the lists G that stand last in its records -/
structure BookG (w : World) (bk : Nat) (vw vr : Value) (W R G : List Value) (P : Nat → Prop) : Prop where
  box : w.heap[bk]? = some (.cells #[vw, .slice none 0 0, .slice none 0 0, vr] 40 (0, 0))
  roww : w.ownsRow 0 30 1 vw W.length W
  rowr : w.ownsRow 0 46 1 vr (R.length + G.length) (R ++ G)
  pb : P bk
  pw : ∀ x, vw.ownBlock = some x → P x ∧ x ≠ bk ∧ vr.ownBlock ≠ some x
  pr : ∀ x, vr.ownBlock = some x → P x ∧ x ≠ bk
  each : ∀ v ∈ W ++ R, ∀ x, v.ownBlock = some x → P x ∧ x ≠ bk ∧ vw.ownBlock ≠ some x ∧ vr.ownBlock ≠ some x
  fw : ∀ i (h : i < W.length), ∃ n, n ≤ 100000000 ∧ Full w W[i] (markW (i / 4 * 4)) n
  fr : ∀ i (h : i < R.length), ∃ n, n ≤ 100000000 ∧ FullR w R[i] (-1000 - ((i / 4 : Nat) : Int)) n
theorem BookG.cells {w : World} {bk : Nat} {vw vr : Value} {W R G : List Value} {P : Nat → Prop} (h : BookG w bk vw vr W R G P) : w.cell? ⟨bk, 0, none⟩ = some vw ∧ w.cell? ⟨bk, 3, none⟩ = some vr := by
  have := h.box
  simp [World.cell?, this]
theorem BookG.frozen {w : World} {bk : Nat} {vw vr : Value} {W R G : List Value} {P : Nat → Prop} (h : BookG w bk vw vr W R G P) (o : Nat) : w.frozen? ⟨bk, o, none⟩ = false := by
  have := h.box
  simp [World.frozen?, this]
theorem BookG.blt {w : World} {bk : Nat} {vw vr : Value} {W R G : List Value} {P : Nat → Prop} (h : BookG w bk vw vr W R G P) : bk < w.heap.size := World.block_lt_of_cell? w _ h.cells.1
theorem BookG.kept {w w' : World} {bk : Nat} {vw vr : Value} {W R G : List Value} {P S : Nat → Prop} (h : BookG w bk vw vr W R G P) (ho : Only S w w') (hd : ∀ x, S x → ¬ P x) : BookG w' bk vw vr W R G P := by
  have hb : ∀ x, P x → x < w.heap.size → w'.heap[x]? = w.heap[x]? := fun x hp hx => ho.block x hx (fun hs => hd x hs hp)
  refine ⟨(hb bk h.pb h.blt).trans h.box, own_kept h.roww fun g hg => hb g (h.pw g hg).1 (World.ownsRow.lt h.roww g hg).2, own_kept h.rowr fun g hg => hb g (h.pr g hg).1 (World.ownsRow.lt h.rowr g hg).2, h.pb, h.pw, h.pr, h.each, ?_, ?_⟩
  · intro i hi
    obtain ⟨n, hn, hf⟩ := h.fw i hi
    exact ⟨n, hn, hf.kept ho.size fun g hg => hb g (h.each W[i] (List.mem_append.2 (.inl (List.getElem_mem hi))) g hg).1 (hf.lt g hg)⟩
  · intro i hi
    obtain ⟨n, hn, hf⟩ := h.fr i hi
    exact ⟨n, hn, hf.kept ho.size fun g hg => hb g (h.each R[i] (List.mem_append.2 (.inr (List.getElem_mem hi))) g hg).1 (hf.lt g hg)⟩
/-- from the whole book: only what there is -/
theorem BookAt.toG {w : World} {bk : Nat} {vw vr : Value} {W R : List Value} {P : Nat → Prop} (h : BookAt w bk vw vr W R P) : BookG w bk vw vr W R [] (fun x => P x ∧ x < w.heap.size) := by
  refine ⟨h.box, h.roww, by simpa using h.rowr, ⟨h.pb, h.blt⟩, fun x hx => ⟨⟨(h.pw x hx).1, (World.ownsRow.lt h.roww x hx).2⟩, (h.pw x hx).2⟩, fun x hx => ⟨⟨(h.pr x hx).1, (World.ownsRow.lt h.rowr x hx).2⟩, (h.pr x hx).2⟩, ?_, h.fw, h.fr⟩
  intro v hv x hx
  refine ⟨⟨(h.each v hv x hx).1, ?_⟩, (h.each v hv x hx).2⟩
  rcases List.mem_append.1 hv with hv | hv
  · obtain ⟨i, hi, rfl⟩ := List.getElem_of_mem hv
    obtain ⟨n, _, hf⟩ := h.fw i hi
    exact hf.lt x hx
  · obtain ⟨i, hi, rfl⟩ := List.getElem_of_mem hv
    obtain ⟨n, _, hf⟩ := h.fr i hi
    exact hf.lt x hx
/-- the state between: u is the list that grows, G the lists of it that stand in the book already -/
structure KR (w0 : World) (PP : Nat → Prop) (bk : Nat) (kd : Int) (vw : Value) (W R : List Value) (wr : World) (u vr : Value) (rows : List Q4) (G : List Value) : Prop where
  ex : ∃ PB : Nat → Prop, BookG wr bk vw vr W R G PB ∧ (∀ x, PB x → x < wr.heap.size ∧ PP x) ∧ (∀ y, u.ownBlock = some y → ¬ PB y) ∧ ∀ x ∈ G, (∃ i, i ≤ rows.length ∧ FullR wr x kd i) ∧ ∀ y, x.ownBlock = some y → ¬ PB y ∧ PP y
  row : Rs wr u rows
  upp : ∀ y, u.ownBlock = some y → PP y
  all : G ≠ [] → AllK rows kd
  only : Only PP w0 wr
  new : ∀ x, w0.heap.size ≤ x → PP x
  pbk : PP bk
theorem AllK.set {rows : List Q4} {kd : Int} (h : AllK rows kd) (i : Nat) (r : Q4) (hr : r.k = kd ∧ r.v = .slice none 0 0) : AllK (rows.set i r) kd := by
  intro j hj
  rw [List.getElem_set]
  split
  · exact hr
  · exact h j (by simpa using hj)
theorem AllK.snoc {rows : List Q4} {kd : Int} (h : AllK rows kd) (r : Q4) (hr : r.k = kd ∧ r.v = .slice none 0 0) : AllK (rows ++ [r]) kd := by
  intro j hj
  by_cases h1 : j < rows.length
  · rw [List.getElem_append_left h1]; exact h j h1
  · have : j = rows.length := by simp at hj; omega
    subst this
    simpa using hr
theorem Rs.kept {w w' : World} {v : Value} {rows : List Q4} (h : Rs w v rows) (hb : ∀ g, v.ownBlock = some g → w'.heap[g]? = w.heap[g]?) : Rs w' v rows := own_kept h hb
theorem KR.set {w0 wr : World} {PP : Nat → Prop} {bk : Nat} {kd : Int} {vw u vr : Value} {W R G : List Value} {rows : List Q4} {b : Nat} (h : KR w0 PP bk kd vw W R wr u vr rows G) (hb : u.ownBlock = some b) (k : Nat) (hk : k < rows.length) (r : Q4) (hr : r.k = kd ∧ r.v = .slice none 0 0) :
    KR w0 PP bk kd vw W R ((((wr.setCell ⟨b, k * 4, none⟩ (.int .i64 r.k)).setCell ⟨b, k * 4 + 1, none⟩ (.int .i64 r.t)).setCell ⟨b, k * 4 + 2, none⟩ (.int .i64 r.g)).setCell ⟨b, k * 4 + 3, none⟩ r.v) u vr (rows.set k r) G := by
  obtain ⟨PB, hG, hlt, hnu, hx⟩ := h.ex
  have hrow := h.row.set hb k hk r
  have ho : Only (fun x => x = b) wr ((((wr.setCell ⟨b, k * 4, none⟩ (.int .i64 r.k)).setCell ⟨b, k * 4 + 1, none⟩ (.int .i64 r.t)).setCell ⟨b, k * 4 + 2, none⟩ (.int .i64 r.g)).setCell ⟨b, k * 4 + 3, none⟩ r.v) :=
    ((((Only.refl (fun x => x = b) wr).setCell b _ _ (.inl rfl)).setCell b _ _ (.inl rfl)).setCell b _ _ (.inl rfl)).setCell b _ _ (.inl rfl)
  refine ⟨⟨PB, hG.kept ho (fun x hx => by subst hx; exact hnu x hb), fun x hp => ⟨Nat.lt_of_lt_of_le (hlt x hp).1 ho.size, (hlt x hp).2⟩, hnu, fun x hxx => ?_⟩, hrow, h.upp, fun hg => (h.all hg).set k r hr, ?_, h.new, h.pbk⟩
  · obtain ⟨⟨i, hi, hf⟩, hy⟩ := hx x hxx
    refine ⟨⟨i, by rw [List.length_set]; exact hi, ?_⟩, hy⟩
    have hall := (h.all (by intro e; rw [e] at hxx; simp at hxx)).set k r hr
    by_cases he : x.ownBlock = u.ownBlock
    · exact (hrow.full hall).part hf.shape he (by rw [List.length_set]; exact hi)
    · exact hf.kept ho.size fun g hg => ho.block g (hf.lt g hg) (fun e => he (by rw [hg, hb, e]))
  · exact h.only.trans ho (fun x _ e => by subst e; exact h.upp x hb)
theorem KR.more {w0 wr w2 : World} {PP : Nat → Prop} {bk : Nat} {kd : Int} {vw u u' vr : Value} {W R G : List Value} {rows : List Q4} {o : Obj} {r : Q4} (h : KR w0 PP bk kd vw W R wr u vr rows G) (hall : AllK rows kd) (hr : r.k = kd ∧ r.v = .slice none 0 0)
    (hown : w2.ownsRow 0 32 4 u' (rows.length + 1) (cells4 rows ++ [.int .i64 r.k, .int .i64 r.t, .int .i64 r.g, r.v])) (hgr : (wr.alloc o).grownBy w2 u.ownBlock) (bes : Beside (wr.alloc o) w2 u u') : KR w0 PP bk kd vw W R w2 u' vr (rows ++ [r]) G := by
  obtain ⟨PB, hG, hlt, hnu, hx⟩ := h.ex
  have hrow : Rs w2 u' (rows ++ [r]) := Rs.snoc hown
  have ha2 := hall.snoc r hr
  have hs := h.only.size
  have hf' := hrow.full ha2
  have ho : Only (fun x => u.ownBlock = some x) wr w2 := ((Only.refl _ wr).alloc o).grown hgr (fun x hx => .inl hx)
  have hu' : ∀ y, u'.ownBlock = some y → u.ownBlock = some y ∨ y = wr.heap.size + 1 ∨ wr.heap.size ≤ y := by
    intro y hy
    rcases bes with ⟨e, _⟩ | ⟨e, _⟩
    · rw [e] at hy; exact .inl hy
    · rw [e] at hy; injection hy with hy; simp at hy; exact .inr (.inr (by omega))
  refine ⟨⟨PB, hG.kept ho (fun x hx => hnu x hx), fun x hp => ⟨Nat.lt_of_lt_of_le (hlt x hp).1 ho.size, (hlt x hp).2⟩, ?_, fun x hxx => ?_⟩, hrow, ?_, fun _ => ha2, ?_, h.new, h.pbk⟩
  · intro y hy hp
    rcases hu' y hy with q | q | q
    · exact hnu y q hp
    · have := (hlt y hp).1; omega
    · have := (hlt y hp).1; omega
  · obtain ⟨⟨i, hi, hf⟩, hy⟩ := hx x hxx
    refine ⟨⟨i, by rw [List.length_append, List.length_singleton]; omega, ?_⟩, hy⟩
    have hfa : FullR (wr.alloc o) x kd i := hf.kept (by simp) fun g hg => Below.heap_alloc _ _ _ (hf.lt g hg)
    exact fullR_after hfa hgr hf' (fun _ => by rw [List.length_append, List.length_singleton]; omega) bes
  · intro y hy
    rcases hu' y hy with q | q | q
    · exact h.upp y q
    · exact h.new y (by omega)
    · exact h.new y (by omega)
  · exact h.only.trans ho (fun x _ e => h.upp x e)
theorem KR.keep {w0 wr w5 : World} {PP : Nat → Prop} {bk : Nat} {kd : Int} {vw u vr vr2 : Value} {W R G : List Value} {rows : List Q4} {o : Obj} (h : KR w0 PP bk kd vw W R wr u vr rows G) (hall : AllK rows kd)
    (hown : w5.ownsRow 0 46 1 vr2 (R.length + G.length + 1) ((R ++ G) ++ [u])) (hgr : (wr.alloc o).grownBy w5 vr.ownBlock) (bes : Beside (wr.alloc o) w5 vr vr2) : KR w0 PP bk kd vw W R (w5.setCell ⟨bk, 3, none⟩ vr2) u vr2 rows (G ++ [u]) := by
  obtain ⟨PB, hG, hlt, hnu, hx⟩ := h.ex
  have hs0 := h.only.size
  have hs5 : wr.heap.size + 1 ≤ w5.heap.size := by have := hgr.size; simpa using this
  have hbk := hG.blt
  have fin5 : ∀ x, x < wr.heap.size → vr.ownBlock ≠ some x → w5.heap[x]? = wr.heap[x]? := fun x hx hne => (hgr.block x (by simp; omega) (fun e => hne e.symm)).trans (Below.heap_alloc _ _ _ hx)
  have fin : ∀ x, x < wr.heap.size → x ≠ bk → vr.ownBlock ≠ some x → (w5.setCell ⟨bk, 3, none⟩ vr2).heap[x]? = wr.heap[x]? := fun x hx h1 h2 => (Below.heap_setCell w5 _ vr2 x h1).trans (fin5 x hx h2)
  have hu : ∀ x, vr2.ownBlock = some x → vr.ownBlock = some x ∨ x = wr.heap.size + 1 := by
    intro x hx
    rcases bes with ⟨e, _⟩ | ⟨e, _⟩
    · rw [e] at hx; exact .inl hx
    · rw [e] at hx; injection hx with hx; simp at hx; exact .inr (by omega)
  have hvb : vr.ownBlock ≠ some bk := fun e => (hG.pr bk e).2 rfl
  have hsz : wr.heap.size ≤ (w5.setCell ⟨bk, 3, none⟩ vr2).heap.size := by simp; omega
  have hult : ∀ y, u.ownBlock = some y → y < wr.heap.size := fun y hy => (World.ownsRow.lt h.row y hy).2
  have notPB : ∀ y, ¬ PB y → y < wr.heap.size → ¬ (PB y ∨ vr2.ownBlock = some y) := by
    rintro y hn hl (q | q)
    · exact hn q
    · rcases hu y q with q | q
      · exact hn (hG.pr y q).1
      · omega
  have finN : ∀ y, ¬ PB y → y < wr.heap.size → (w5.setCell ⟨bk, 3, none⟩ vr2).heap[y]? = wr.heap[y]? := fun y hn hl => fin y hl (fun e => hn (e ▸ hG.pb)) (fun e => hn (hG.pr y e).1)
  refine ⟨⟨fun x => PB x ∨ vr2.ownBlock = some x, ⟨?_, ?_, ?_, .inl hG.pb, ?_, ?_, ?_, ?_, ?_⟩, ?_, ?_, ?_⟩, ?_, h.upp, fun _ => hall, ?_, h.new, h.pbk⟩
  · have h5 : w5.heap[bk]? = some (.cells #[vw, .slice none 0 0, .slice none 0 0, vr] 40 (0, 0)) := (fin5 bk hbk hvb).trans hG.box
    rw [heap_setCell_at w5 bk 3 _ _ _ _ h5]; rfl
  · exact own_kept hG.roww fun g hg => fin g (World.ownsRow.lt hG.roww g hg).2 (hG.pw g hg).2.1 (hG.pw g hg).2.2
  · rw [List.length_append, List.length_singleton, ← Nat.add_assoc, ← List.append_assoc]
    refine own_kept hown fun g hg => Below.heap_setCell w5 _ vr2 g ?_
    show g ≠ bk
    rcases hu g hg with q | q
    · exact fun e => hvb (e ▸ q)
    · omega
  · intro x hx
    refine ⟨.inl (hG.pw x hx).1, (hG.pw x hx).2.1, fun e => ?_⟩
    rcases hu x e with q | q
    · exact (hG.pw x hx).2.2 q
    · have := (World.ownsRow.lt hG.roww x hx).2; omega
  · intro x hx
    refine ⟨.inr hx, ?_⟩
    rcases hu x hx with q | q
    · exact (hG.pr x q).2
    · omega
  · intro v hv x hx
    obtain ⟨h1, h2, h3, h4⟩ := hG.each v hv x hx
    refine ⟨.inl h1, h2, h3, fun e => ?_⟩
    rcases hu x e with q | q
    · exact h4 q
    · have := (hlt x h1).1; omega
  · intro i hi
    obtain ⟨n, hn, hf⟩ := hG.fw i hi
    exact ⟨n, hn, hf.kept hsz fun g hg => by
      obtain ⟨_, a2, _, a4⟩ := hG.each W[i] (List.mem_append.2 (.inl (List.getElem_mem hi))) g hg
      exact fin g (hf.lt g hg) a2 a4⟩
  · intro i hi
    obtain ⟨n, hn, hf⟩ := hG.fr i hi
    exact ⟨n, hn, hf.kept hsz fun g hg => by
      obtain ⟨_, a2, _, a4⟩ := hG.each R[i] (List.mem_append.2 (.inr (List.getElem_mem hi))) g hg
      exact fin g (hf.lt g hg) a2 a4⟩
  · rintro x (hp | hp)
    · exact ⟨Nat.lt_of_lt_of_le (hlt x hp).1 hsz, (hlt x hp).2⟩
    · rcases hu x hp with q | q
      · have := hlt x (hG.pr x q).1
        exact ⟨Nat.lt_of_lt_of_le this.1 hsz, this.2⟩
      · refine ⟨?_, h.new x (by omega)⟩
        have := (World.ownsRow.lt hown x hp).2
        simpa using this
  · intro y hy
    exact notPB y (hnu y hy) (hult y hy)
  · intro x hxx
    rcases List.mem_append.1 hxx with hxx | hxx
    · obtain ⟨⟨i, hi, hf⟩, hy⟩ := hx x hxx
      exact ⟨⟨i, hi, hf.kept hsz fun g hg => finN g (hy g hg).1 (hf.lt g hg)⟩, fun y hyy => ⟨notPB y (hy y hyy).1 (hf.lt y hyy), (hy y hyy).2⟩⟩
    · simp only [List.mem_singleton] at hxx
      subst hxx
      have hf := h.row.full hall
      exact ⟨⟨rows.length, Nat.le_refl _, hf.kept hsz fun g hg => finN g (hnu g hg) (hf.lt g hg)⟩, fun y hyy => ⟨notPB y (hnu y hyy) (hult y hyy), h.upp y hyy⟩⟩
  · exact h.row.kept fun g hg => finN g (hnu g hg) (hult g hg)
  · refine (h.only.trans (T := fun x => x = bk ∨ vr.ownBlock = some x) ⟨?_, ?_, ?_, hsz, fun k hk hn => fin k hk (fun e => hn (.inl e)) (fun e => hn (.inr e))⟩ ?_)
    · exact (show (w5.setCell ⟨bk, 3, none⟩ vr2).os = w5.os from rfl).trans hgr.os
    · exact (show (w5.setCell ⟨bk, 3, none⟩ vr2).tape = w5.tape from rfl).trans hgr.tape
    · exact (show (w5.setCell ⟨bk, 3, none⟩ vr2).output = w5.output from rfl).trans hgr.output
    · rintro x _ (e | e)
      · subst e; exact h.pbk
      · exact (hlt x (hG.pr x e).1).2
/-- the group is whole: the book is a book again -/
theorem KR.done {w0 wr : World} {PP : Nat → Prop} {bk : Nat} {kd : Int} {vw u vr : Value} {W R G : List Value} {rows : List Q4} (h : KR w0 PP bk kd vw W R wr u vr rows G) (h4 : R.length % 4 = 0) (hg4 : G.length = 4) (hk : kd = -1000 - ((R.length / 4 : Nat) : Int)) (hr : rows.length ≤ 100000000) : BookAt wr bk vw vr W (R ++ G) PP := by
  obtain ⟨PB, hG, hlt, hnu, hx⟩ := h.ex
  have hup : ∀ x, PB x → PP x := fun x hp => (hlt x hp).2
  refine ⟨hG.box, hG.roww, by rw [List.length_append]; exact hG.rowr, hup _ hG.pb, fun x hx => ⟨hup x (hG.pw x hx).1, (hG.pw x hx).2⟩, fun x hx => ⟨hup x (hG.pr x hx).1, (hG.pr x hx).2⟩, ?_, hG.fw, ?_⟩
  · intro v hv x hxx
    rw [← List.append_assoc, List.mem_append] at hv
    rcases hv with hv | hv
    · exact ⟨hup x (hG.each v hv x hxx).1, (hG.each v hv x hxx).2⟩
    · obtain ⟨_, hy⟩ := hx v hv
      obtain ⟨hn, hp⟩ := hy x hxx
      exact ⟨hp, fun e => hn (e ▸ hG.pb), fun e => hn (hG.pw x e).1, fun e => hn (hG.pr x e).1⟩
  · intro i hi
    by_cases hl : i < R.length
    · rw [List.getElem_append_left hl]; exact hG.fr i hl
    · rw [List.getElem_append_right (by omega)]
      have hi4 : i - R.length < G.length := by rw [List.length_append] at hi; omega
      obtain ⟨⟨n, hn, hf⟩, _⟩ := hx G[i - R.length] (List.getElem_mem hi4)
      refine ⟨n, by omega, ?_⟩
      rw [show i / 4 = R.length / 4 by omega, ← hk]
      exact hf
end Go.Proofs.Ytneepapppbchnaa
