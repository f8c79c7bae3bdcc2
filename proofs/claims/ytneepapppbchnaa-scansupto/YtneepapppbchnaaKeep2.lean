/- The walk of keepWrites. -/
import Derived.Test.YtneepapppbchnaaKeep1
namespace Go.Proofs.Ytneepapppbchnaa
open Go.RowKit
set_option linter.unusedVariables false

theorem Try.info30 : (Try.prog.info? 30).map (fun i => (i.zero, i.size, i.bytes)) = some (some (.slice none 0 0), 1, 24) := by kernel_rfl
theorem Try.info46 : (Try.prog.info? 46).map (fun i => (i.zero, i.size, i.bytes)) = some (some (.slice none 0 0), 1, 24) := by kernel_rfl
/-- the block c is one write -/
def Wb (w : World) (c : Nat) (r : WrL) : Prop := w.heap[c]? = some (.cells #[.string r.key, .bool r.dead, .string r.value] 65 (0, 0))
theorem Wb.cells {w : World} {c : Nat} {r : WrL} (h : Wb w c r) : w.cell? ⟨c, 0, none⟩ = some (.string r.key) ∧ w.cell? ⟨c, 1, none⟩ = some (.bool r.dead) ∧ w.cell? ⟨c, 2, none⟩ = some (.string r.value) := by
  unfold Wb at h; simp [World.cell?, h]
theorem Wb.lt {w : World} {c : Nat} {r : WrL} (h : Wb w c r) : c < w.heap.size := World.block_lt_of_cell? w _ h.cells.1
theorem Wb.kept {w w' : World} {c : Nat} {r : WrL} (h : Wb w c r) (hb : w'.heap[c]? = w.heap[c]?) : Wb w' c r := hb.trans h
theorem fill_set (k : Nat) (m : WrL) (ws : List WrL) (hk : k < ws.length) : (List.replicate k m ++ ws.drop k).set k m = List.replicate (k + 1) m ++ ws.drop (k + 1) := by
  rw [List.set_append_right _ _ (by simp), List.length_replicate, Nat.sub_self, List.drop_eq_getElem_cons hk, List.set_cons_zero, List.replicate_succ']
  simp
theorem fill_length (k : Nat) (m : WrL) (ws : List WrL) (hk : k ≤ ws.length) : (List.replicate k m ++ ws.drop k).length = ws.length := by simp; omega
theorem own_slice {w : World} {l : Value} {ws : List WrL} (h : Ws w l ws) (h0 : 0 < ws.length) : ∃ b cap, l = .slice (some ⟨b, 0, none⟩) ws.length cap := by
  rcases h.2 with ⟨rfl, h2⟩ | ⟨g, cap, cur, rfl, _⟩
  · omega
  · exact ⟨g, cap, rfl⟩
theorem Wb.mark {w : World} {c n : Nat} (h : Wb w c (markW n)) : w.cell? ⟨c, 0, none⟩ = some (.string (markT n)) ∧ w.cell? ⟨c, 1, none⟩ = some (.bool false) ∧ w.cell? ⟨c, 2, none⟩ = some (.string ⟨#[]⟩) := h.cells
/-- the list l, filled; the mark's box -/
structure KS (w wc : World) (l : Value) (c : Nat) (m : WrL) (n : Nat) : Prop where
  row : wc.ownsRow 0 65 3 l n (cellsOf (List.replicate n m))
  only : Only (fun x => l.ownBlock = some x) w wc
  box : Wb wc c m
  new : w.heap.size ≤ c
  old : ∀ x, l.ownBlock = some x → x < w.heap.size
theorem KS.step {w wc w2 : World} {l : Value} {c n : Nat} {m : WrL} {o : Obj} (h : KS w wc l c m n) (hold : w2.ownsRow 0 65 3 l n (cellsOf (List.replicate n m))) (hgr : (wc.alloc o).grownBy w2 l.ownBlock) : KS w w2 l c m n := by
  have hlt := h.box.lt
  refine ⟨hold, (h.only.alloc o).grown hgr (fun x hx => .inl hx), h.box.kept ?_, h.new, h.old⟩
  rw [hgr.block c (by simp; omega) (fun e => by have := h.old c e.symm; have := h.new; omega), Below.heap_alloc _ _ _ hlt]
theorem Full.alloc {w : World} {x : Value} {m : WrL} {i : Nat} (h : Full w x m i) (o : Obj) : Full (w.alloc o) x m i := h.kept (by simp) fun g hg => Below.heap_alloc _ _ _ (h.lt g hg)
theorem ws_of {w : World} {u : Value} {n k : Nat} {m : WrL} {xs : List Value} (hx : xs = cellsOf (List.replicate k m)) (h : w.ownsRow 0 65 3 u (n + k) (cellsOf (List.replicate n m) ++ xs)) : Full w u m (n + k) := by
  refine Ws.full ?_
  unfold Ws
  rw [List.length_replicate, ← List.replicate_append_replicate, cellsOf_append, ← hx]
  exact h
/-- where the new list lies -/
theorem beside_block {w wc w2 : World} {l u : Value} {c n : Nat} {m : WrL} {o : Obj} (h : KS w wc l c m n) (hb : Beside (wc.alloc o) w2 l u) : ∀ x, u.ownBlock = some x → l.ownBlock = some x ∨ w.heap.size ≤ x := by
  intro x hx
  rcases hb with ⟨e, _⟩ | ⟨e, _⟩
  · rw [e] at hx; exact .inl hx
  · rw [e] at hx; injection hx with hx; have := h.only.size; simp at hx; exact .inr (by omega)
set_option maxHeartbeats 1000000 in
set_option maxRecDepth 100000 in
theorem keepWrites_any (bk : Nat) (vw vr l : Value) (W R : List Value) (P : Nat → Prop) (ws : List WrL) (w : World) (hb : BookAt w bk vw vr W R P) (hl : Ws w l ws) (hlP : ∀ x, l.ownBlock = some x → ¬ P x) (h4 : W.length % 4 = 0) (hW : W.length ≤ 1000000000) (hws : ws.length ≤ 1000000) :
    Calls Try.prog 46 #[.pointer (some ⟨bk, 0, none⟩), l] w fun e w' => e = .returned (.tuple #[]) ∧ ∃ vw' W', BookAt w' bk vw' vr W' R (fun x => P x ∨ l.ownBlock = some x ∨ w.heap.size ≤ x) ∧ W'.length = W.length + 4 ∧ Only (fun x => P x ∨ l.ownBlock = some x) w w' := by
  obtain ⟨i0, hi, hz0, hz1, hz2⟩ := info_parts Try.info65
  obtain ⟨j0, hj, hy0, hy1, hy2⟩ := info_parts Try.info30
  obtain ⟨va, vc, hvw⟩ := own_form hb.roww
  subst hvw
  obtain ⟨la, lc, hll⟩ := hl.form
  subst hll
  have q0 := hb.cells.1
  have hlt : ∀ x, (Value.slice la ws.length lc).ownBlock = some x → x < w.heap.size := fun x hx => (World.ownsRow.lt hl x hx).2
  go_enter Try.func46, Try.ntmps46
  go_wp2_with fail
  refine (markWrite_any W.length _ (by omega)).mono ?_
  rintro e w1 ⟨rfl, hb1⟩
  have hm0 : (markW W.length).key = markT W.length := rfl
  have hm1 : (markW W.length).dead = false := rfl
  have hm2 : (markW W.length).value = ⟨#[]⟩ := rfl
  have hWb : Wb (w1.alloc (.cells #[.string (markT W.length), .bool false, .string ⟨#[]⟩] 65)) w1.heap.size (markW W.length) := heap_alloc_new w1 _
  have ho1 : Only (fun x => (Value.slice la ws.length lc).ownBlock = some x) w (w1.alloc (.cells #[.string (markT W.length), .bool false, .string ⟨#[]⟩] 65)) := (Only.of_below hb1).alloc _
  have hs1 := hb1.size
  have hl1 : Ws (w1.alloc (.cells #[.string (markT W.length), .bool false, .string ⟨#[]⟩] 65)) (.slice la ws.length lc) ws := hl.kept fun g hg => (Below.heap_alloc _ _ _ (by have := hlt g hg; omega)).trans (hb1.block g (hlt g hg))
  clear q0
  go_wp2_with fail
  go_loopw [5] (fun i wr => ∃ k : Nat, k ≤ ws.length ∧ i = .int .i64 (k : Int) ∧ Ws wr (.slice la ws.length lc) (List.replicate k (markW W.length) ++ ws.drop k) ∧ Only (fun x => (Value.slice la ws.length lc).ownBlock = some x) w wr ∧ Wb wr w1.heap.size (markW W.length)) (fun i _ => ws.length - (intOf i).toNat)
  case atStart => exact ⟨0, Nat.zero_le _, rfl, by simpa using hl1, ho1, hWb⟩
  case round =>
    obtain ⟨k, hk, rfl, hrow, hon, hwb⟩ := hrel
    obtain ⟨c0, c1, c2⟩ := hwb.cells
    rw [hm0] at c0
    rw [hm1] at c1
    rw [hm2] at c2
    by_cases hkl : k < ws.length
    · obtain ⟨b, cap, hsl⟩ := own_slice hl (by omega)
      injection hsl with hsa _ hsc
      subst hsa
      have hrl : (List.replicate k (markW W.length) ++ ws.drop k).length = ws.length := fill_length k _ ws (by omega)
      have HST : Hid ((List.replicate k (markW W.length) ++ ws.drop k).set k (markW W.length) = List.replicate (k + 1) (markW W.length) ++ ws.drop (k + 1)) := fill_set k _ ws hkl
      have HRL := hide hrl
      have hkr : k < (List.replicate k (markW W.length) ++ ws.drop k).length := by omega
      have hcs := World.ownsRow.cells hrow (g := b) rfl
      obtain ⟨y0, y1, y2⟩ := cellsOf_get _ k hkr
      have x0 := hcs _ _ y0
      have x1 := hcs _ _ y1
      have x2 := hcs _ _ y2
      simp only [Addr.add_lit, Nat.zero_add] at x0 x1 x2
      have z0 := own_frozen hrow (g := b) rfl (k * 3)
      have z1 := own_frozen hrow (g := b) rfl (k * 3 + 1)
      have z2 := own_frozen hrow (g := b) rfl (k * 3 + 2)
      have hbw : b < w.heap.size := hlt b rfl
      have hne : b ≠ w1.heap.size := by omega
      clear hcs y0 y1 y2 hrl hsc
      go_wp2_with fail
      go_roundw
      case rel =>
        refine ⟨k + 1, by omega, by go_num, ?_, ?_, ?_⟩
        · rw [← HST.out]
          exact hrow.set (g := b) rfl k hkr (markW W.length)
        · exact ((hon.setCell b _ _ (.inl rfl)).setCell b _ _ (.inl rfl)).setCell b _ _ (.inl rfl)
        · refine hwb.kept ?_
          rw [Below.heap_setCell _ _ _ _ (Ne.symm hne), Below.heap_setCell _ _ _ _ (Ne.symm hne), Below.heap_setCell _ _ _ _ (Ne.symm hne)]
      case measure => simp [intOf]; omega
    · obtain rfl : k = ws.length := by omega
      rw [List.drop_eq_nil_of_le (Nat.le_refl _), List.append_nil] at hrow
      have hcw : w.heap.size ≤ w1.heap.size := hs1
      have hK : KS w wr (.slice la ws.length lc) w1.heap.size (markW W.length) ws.length := ⟨by have := hrow; unfold Ws at this; rwa [List.length_replicate] at this, hon, hwb, hcw, hlt⟩
      have f0 : Full wr (.slice la ws.length lc) (markW W.length) ws.length := Ws.full hrow
      have HF0 : Hid (Full wr (.slice la ws.length lc) (markW W.length) ws.length) := f0
      have l1 : ws.length + 1 ≤ maxLen := by unfold maxLen; omega
      have l2 : ws.length + 2 ≤ maxLen := by unfold maxLen; omega
      have l3 : ws.length + 3 ≤ maxLen := by unfold maxLen; omega
      have l4 : (ws.length + 1) * 40 ≤ 140737488355328 := by omega
      have l5 : (ws.length + 2) * 40 ≤ 140737488355328 := by omega
      have l6 : (ws.length + 3) * 40 ≤ 140737488355328 := by omega
      have l7 : W.length + 4 ≤ maxLen := by unfold maxLen; omega
      have l8 : (W.length + 4) * 24 ≤ 140737488355328 := by omega
      clear f0 hrow hon hwb hl1 ho1 hWb
      go_upto_region 6 with (at_builtin; go_must (refine wpList_append_two _ rfl _ _ 30 30 rfl 65 i0 _ 3 40 Try.underlying30 hi hz0 hz1 hz2 rfl (by decide) _ _ _ rfl (World.ownsRow.alloc hK.row _) _ 1 _ rfl (src_alloc wr 3 _ _ _ Try.underlying30 1 _ #[.string (markT W.length), .bool false, .string ⟨#[]⟩] rfl rfl) (fun _ => by decide) l1 l4 ?_; intro g1 w2 hown1 hold1 hgr1 bes1 hnn1; obtain ⟨ga1, gc1, hg1⟩ := own_form hown1; subst hg1))
      have hK2 := hK.step hold1 hgr1
      have F12 : Full w2 _ (markW W.length) (ws.length + 1) := ws_of rfl hown1
      have F02 : Full w2 _ (markW W.length) ws.length := full_after (HF0.out.alloc _) hgr1 F12 (fun _ => by omega) bes1
      have HB1 := hide (beside_block hK bes1)
      have HF12 := hide (F12)
      have HF02 := hide (F02)
      clear hown1 hold1 hgr1 bes1 hnn1 F12 F02 hK HF0
      clear c0 c1 c2
      obtain ⟨c0, c1, c2⟩ := hK2.box.mark
      go_upto_region 7 with (at_builtin; go_must (refine wpList_append_two _ rfl _ _ 30 30 rfl 65 i0 _ 3 40 Try.underlying30 hi hz0 hz1 hz2 rfl (by decide) _ _ _ rfl (World.ownsRow.alloc hK2.row _) _ 2 _ rfl (src_alloc w2 3 _ _ _ Try.underlying30 2 _ #[.string (markT W.length), .bool false, .string ⟨#[]⟩, .string (markT W.length), .bool false, .string ⟨#[]⟩] rfl rfl) (fun _ => by decide) l2 l5 ?_; intro g2 w3 hown2 hold2 hgr2 bes2 hnn2; obtain ⟨ga2, gc2, hg2⟩ := own_form hown2; subst hg2))
      have hK3 := hK2.step hold2 hgr2
      have F23 : Full w3 _ (markW W.length) (ws.length + 2) := ws_of rfl hown2
      have F13 : Full w3 _ (markW W.length) (ws.length + 1) := full_after (HF12.out.alloc _) hgr2 F23 (fun _ => by omega) bes2
      have F03 : Full w3 _ (markW W.length) ws.length := full_after (HF02.out.alloc _) hgr2 F23 (fun _ => by omega) bes2
      have HB2 := hide (beside_block hK2 bes2)
      have HF23 := hide (F23)
      have HF13 := hide (F13)
      have HF03 := hide (F03)
      clear hown2 hold2 hgr2 bes2 hnn2 F23 F13 F03 hK2 HF12 HF02
      clear c0 c1 c2
      obtain ⟨c0, c1, c2⟩ := hK3.box.mark
      go_upto_region 8 with (at_builtin; go_must (refine wpList_append_two _ rfl _ _ 30 30 rfl 65 i0 _ 3 40 Try.underlying30 hi hz0 hz1 hz2 rfl (by decide) _ _ _ rfl (World.ownsRow.alloc hK3.row _) _ 3 _ rfl (src_alloc w3 3 _ _ _ Try.underlying30 3 _ #[.string (markT W.length), .bool false, .string ⟨#[]⟩, .string (markT W.length), .bool false, .string ⟨#[]⟩, .string (markT W.length), .bool false, .string ⟨#[]⟩] rfl rfl) (fun _ => by decide) l3 l6 ?_; intro g3 w4 hown3 hold3 hgr3 bes3 hnn3; obtain ⟨ga3, gc3, hg3⟩ := own_form hown3; subst hg3))
      have hK4 := hK3.step hold3 hgr3
      have F34 : Full w4 _ (markW W.length) (ws.length + 3) := ws_of rfl hown3
      have F24 : Full w4 _ (markW W.length) (ws.length + 2) := full_after (HF23.out.alloc _) hgr3 F34 (fun _ => by omega) bes3
      have F14 : Full w4 _ (markW W.length) (ws.length + 1) := full_after (HF13.out.alloc _) hgr3 F34 (fun _ => by omega) bes3
      have F04 : Full w4 _ (markW W.length) ws.length := full_after (HF03.out.alloc _) hgr3 F34 (fun _ => by omega) bes3
      have HB3 := hide (beside_block hK3 bes3)
      have HF34 := hide (F34)
      have HF24 := hide (F24)
      have HF14 := hide (F14)
      have HF04 := hide (F04)
      clear hown3 hold3 hgr3 bes3 hnn3 F34 F24 F14 F04 hK3 HF23 HF13 HF03
      clear c0 c1 c2
      have hb4 := hb.kept hK4.only (fun x hx => hlP x hx)
      have q0 := hb4.cells.1
      have hbk := hb4.blt
      go_wp2_with (at_builtin; go_must (refine wpList_append_two _ rfl _ _ 35 35 rfl 30 j0 _ 1 24 Try.underlying35 hj hy0 hy1 hy2 rfl (by decide) _ _ _ rfl (World.ownsRow.alloc hb4.roww _) _ 4 _ rfl (src_alloc w4 1 _ _ _ Try.underlying35 4 _ #[.slice la ws.length lc, .slice ga1 (ws.length + 1) gc1, .slice ga2 (ws.length + 2) gc2, .slice ga3 (ws.length + 3) gc3] rfl rfl) (fun _ => by decide) l7 l8 ?_; intro g4 w5 hown4 hold4 hgr4 bes4 hnn4; obtain ⟨ga4, gc4, hg4⟩ := own_form hown4; subst hg4; have hbx : w5.heap[bk]? = w4.heap[bk]? := (hgr4.block bk (by simp; omega) (fun e => (hb.pw bk e.symm).2.1 rfl)).trans (Below.heap_alloc _ _ _ hbk); have r0 : w5.cell? ⟨bk, 0, none⟩ = some (.slice va W.length vc) := (World.cell?_of_block hbx).trans q0; have t0 : w5.frozen? ⟨bk, 0, none⟩ = false := (World.frozen?_of_block hbx).trans (hb4.frozen 0)))
      obtain ⟨E1, E2⟩ := keep_end hb h4 hK4.only hlP HF04.out HF14.out HF24.out HF34.out hws HB1.out HB2.out HB3.out hown4 hgr4 bes4
      exact bodyPost_end (v := .tuple #[]) (by simp [results, Try.results46, go_sem]) rfl ⟨rfl, _, _, E1, by simp, E2⟩
end Go.Proofs.Ytneepapppbchnaa
