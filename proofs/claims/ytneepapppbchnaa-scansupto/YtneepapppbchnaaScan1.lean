/- The walks of the cursor's writes, and of guess. -/
import Derived.Test.YtneepapppbchnaaScan0
import Derived.Test.YtneepapppbchnaaRows3
import Derived.Test.YtneepapppbchnaaLent
namespace Go.Proofs.Ytneepapppbchnaa
open Go.RowKit
set_option linter.unusedVariables false

/-- one write that is read, and what is left -/
def rdW (l : List UInt8) : WrL := ⟨textOf (textD (l.drop 1)), decide (numD (l.take 1) = 1), textOf (textD (textR (l.drop 1)))⟩
def rdR (l : List UInt8) : List UInt8 := textR (textR (l.drop 1))
def rdWs : Nat → List UInt8 → List WrL
  | 0, _ => []
  | n + 1, l => rdW l :: rdWs n (rdR l)
def rdRs : Nat → List UInt8 → List UInt8
  | 0, l => l
  | n + 1, l => rdRs n (rdR l)
theorem rdWs_length (n : Nat) (l : List UInt8) : (rdWs n l).length = n := by
  induction n generalizing l with
  | zero => rfl
  | succ n ih => simp [rdWs, ih]
theorem rdRs_succ (n : Nat) (l : List UInt8) : rdRs (n + 1) l = rdR (rdRs n l) := by
  induction n generalizing l with
  | zero => rfl
  | succ n ih => show rdRs (n + 1) (rdR l) = _; rw [ih]; rfl
theorem rdWs_succ (n : Nat) (l : List UInt8) : rdWs (n + 1) l = rdWs n l ++ [rdW (rdRs n l)] := by
  induction n generalizing l with
  | zero => rfl
  | succ n ih =>
    show rdW l :: rdWs (n + 1) (rdR l) = _
    rw [ih]; rfl
theorem textR_le (l : List UInt8) : (textR l).length ≤ l.length := by unfold textR; simp only [List.length_drop]; omega
theorem rdR_le (l : List UInt8) : (rdR l).length ≤ l.length := by
  unfold rdR
  have h1 := textR_le (textR (l.drop 1))
  have h2 := textR_le (l.drop 1)
  have h3 : (l.drop 1).length ≤ l.length := by rw [List.length_drop]; omega
  omega
theorem rdRs_le (n : Nat) (l : List UInt8) : (rdRs n l).length ≤ l.length := by
  induction n generalizing l with
  | zero => exact Nat.le_refl _
  | succ n ih => have := ih (rdR l); have := rdR_le l; show (rdRs n (rdR l)).length ≤ _; omega

/-- the slice v is a row of the call's own and holds the writes rows -/
def Ws (w : World) (v : Value) (rows : List WrL) : Prop := w.ownsRow 0 65 3 v rows.length (cellsOf rows)
theorem srcOne3 {P : Program} (w : World) (t e : TypeId) (ht : P.underlying t = some (.slice e)) (b c : Nat) (s0 : ByteArray) (d : Bool) (s2 : ByteArray) (h0 : w.cell? ⟨b, 0, none⟩ = some (.string s0)) (h1 : w.cell? ⟨b, 1, none⟩ = some (.bool d)) (h2 : w.cell? ⟨b, 2, none⟩ = some (.string s2)) :
    Src P 3 t (.slice (some ⟨b, 0, none⟩) 1 c) 1 [.string s0, .bool d, .string s2] w :=
  Src.ofSlice w ht ⟨b, 0, none⟩ 1 c [.string s0, .bool d, .string s2] rfl (fun j u hj => by
    match j, hj with
    | 0, hj => simp at hj; subst hj; simpa [Addr.add_lit] using h0
    | 1, hj => simp at hj; subst hj; simpa [Addr.add_lit] using h1
    | 2, hj => simp at hj; subst hj; simpa [Addr.add_lit] using h2) (by intro u hu; simp at hu; rcases hu with rfl | rfl | rfl <;> rfl)
theorem Ws.snoc {w : World} {v : Value} {rows : List WrL} {r : WrL} (h : w.ownsRow 0 65 3 v (rows.length + 1) (cellsOf rows ++ [.string r.key, .bool r.dead, .string r.value])) : Ws w v (rows ++ [r]) := by
  unfold Ws
  rw [cellsOf_append, List.length_append]
  exact h
theorem Ws_nil (w : World) : Ws w (.slice none 0 0) [] := World.ownsRow_nil w 0 _ 3
theorem Ws.kept {w w' : World} {v : Value} {rows : List WrL} (h : Ws w v rows) (hb : ∀ g, v.ownBlock = some g → w'.heap[g]? = w.heap[g]?) : Ws w' v rows := by
  obtain ⟨h1, h2⟩ := h
  refine ⟨h1, ?_⟩
  rcases h2 with h2 | ⟨g, cap, cur, rfl, h3, h4, h5⟩
  · exact .inl h2
  · exact .inr ⟨g, cap, cur, rfl, h3, (hb g rfl).trans h4, h5⟩
theorem newer_ne {w : World} {v : Value} {c : Nat} (hn : Newer w (.slice none 0 0) v) (hc : c < w.heap.size) : v.ownBlock ≠ some c := by
  rcases hn with e | ⟨g, e, hg⟩
  · rw [e]; intro h; cases h
  · rw [e]; intro h; injection h; omega

theorem grown_own {w wc w2 : World} {c : Nat} {u : Value} {o : Obj} (hgg : w.grownBy wc (some c)) (hn : Newer w (.slice none 0 0) u) (hgr : (wc.alloc o).grownBy w2 u.ownBlock) : w.grownBy w2 (some c) := by
  have ha := World.grownBy_alloc wc o none
  refine ⟨hgr.os.trans (ha.os.trans hgg.os), hgr.tape.trans (ha.tape.trans hgg.tape), hgr.output.trans (ha.output.trans hgg.output), Nat.le_trans hgg.size (Nat.le_trans ha.size hgr.size), fun k hk hne => ?_⟩
  have hk1 := Nat.lt_of_lt_of_le hk hgg.size
  exact (hgr.block k (Nat.lt_of_lt_of_le hk1 ha.size) (fun e => newer_ne hn hk e.symm)).trans ((ha.block k hk1 (by simp)).trans (hgg.block k hk hne))
theorem cur_own {w wc w2 : World} {c : Nat} {u : Value} {o : Obj} {l : List UInt8} (hcc : Cur wc c l) (hne : u.ownBlock ≠ some c) (hgr : (wc.alloc o).grownBy w2 u.ownBlock) : Cur w2 c l :=
  ((hgr.block c (Nat.lt_of_lt_of_le hcc.lt (World.grownBy_alloc wc o none).size) (fun e => hne e.symm)).trans (Below.heap_alloc wc o c hcc.lt)).trans hcc
theorem beq_one (dn : Nat) : ((dn : Int) == 1) = decide (dn = 1) := by
  by_cases h : dn = 1
  · subst h; rfl
  · rw [beq_eq_false_iff_ne.2 (by omega), decide_eq_false h]
/-- the writes behind their number -/
def rdAll (l : List UInt8) : List WrL := rdWs (numD (l.take 1)) (l.drop 1)
def rdRest (l : List UInt8) : List UInt8 := rdRs (numD (l.take 1)) (l.drop 1)
set_option maxHeartbeats 400000 in
set_option maxRecDepth 100000 in
theorem cwrites_any (c : Nat) (l : List UInt8) (w : World) (hc : Cur w c l) (hl : l.length ≤ 1000) :
    Calls Try.prog 67 #[.pointer (some ⟨c, 0, none⟩)] w fun e w' => ∃ v, e = .returned v ∧ Ws w' v (rdAll l) ∧ Newer w (.slice none 0 0) v ∧ Cur w' c (rdRest l) ∧ w.grownBy w' (some c) := by
  obtain ⟨i0, hi, hz0, hz1, hz2⟩ := info_parts Try.info65
  have h1 := numD_one l
  have hcw := hc.lt
  have RD : Hid (rdAll l = rdWs (numD (l.take 1)) (l.drop 1)) := rfl
  have RR : Hid (rdRest l = rdRs (numD (l.take 1)) (l.drop 1)) := rfl
  have hl1 : (l.drop 1).length ≤ 1000 := by rw [List.length_drop]; omega
  go_enter Try.func67, Try.ntmps67
  go_wp2_with fail
  refine (cnumber_any c 1 l _ hc (by omega) (by omega)).mono ?_
  rintro e w1 ⟨rfl, hc1, hg1⟩
  generalize numD (l.take 1) = n at *
  generalize l.drop 1 = l1 at *
  go_wp2_with fail
  go_loopw [3, 4, 5, 6, 9] (fun v _ _ _ i wr => ∃ k : Nat, k ≤ n ∧ i = .int .i64 k ∧ Ws wr v (rdWs k l1) ∧ Newer w (.slice none 0 0) v ∧ Cur wr c (rdRs k l1) ∧ w.grownBy wr (some c)) (fun _ _ _ _ i _ => n - (intOf i).toNat)
  case atStart => exact ⟨0, Nat.zero_le _, rfl, Ws_nil _, Newer.refl _ _, hc1, hg1⟩
  case round =>
    obtain ⟨k, hk, rfl, hrow, hnew, hcu, hg⟩ := hrel
    by_cases hlt : k < n
    · have hlr := rdRs_le k l1
      have hrl := rdWs_length k l1
      have HS : Hid (rdWs (k + 1) l1 = rdWs k l1 ++ [rdW (rdRs k l1)]) := rdWs_succ k l1
      have HSR : Hid (rdRs (k + 1) l1 = rdR (rdRs k l1)) := rdRs_succ k l1
      generalize rdRs k l1 = cl at *
      generalize rdWs k l1 = rows at *
      have hlen1 : rows.length + 1 ≤ maxLen := by unfold maxLen; omega
      have hlen2 : (rows.length + 1) * 40 ≤ 140737488355328 := by omega
      clear hrl
      have hne := newer_ne hnew hcw
      have hcl1 : (cl.drop 1).length ≤ 1000 := by rw [List.length_drop]; omega
      have htr := textR_le (cl.drop 1)
      have HW : Hid (rdW cl = ⟨textOf (textD (cl.drop 1)), decide (numD (cl.take 1) = 1), textOf (textD (textR (cl.drop 1)))⟩) := rfl
      have HR : Hid (rdR cl = textR (textR (cl.drop 1))) := rfl
      go_wp2_with fail
      refine (cnumber_any c 1 cl _ hcu (by omega) (by omega)).mono ?_
      rintro e wa ⟨rfl, hca, hga⟩
      have hrow_a : Ws wa _ rows := World.ownsRow.kept hrow hga (.inr hne)
      generalize numD (cl.take 1) = dn at *
      generalize cl.drop 1 = c2 at *
      go_wp2_with fail
      refine (ctext_any c c2 _ hca (by omega)).mono ?_
      rintro e wb ⟨rfl, hcb, hgb⟩
      have hrow_b : Ws wb _ rows := World.ownsRow.kept hrow_a hgb (.inr hne)
      generalize textOf (textD c2) = kx at *
      generalize textR c2 = c3 at *
      go_wp2_with fail
      refine (ctext_any c c3 _ hcb (by omega)).mono ?_
      rintro e wc ⟨rfl, hcc, hgc⟩
      have hrow_c : Ws wc _ rows := World.ownsRow.kept hrow_b hgc (.inr hne)
      generalize textOf (textD c3) = vx at *
      have hgg : w.grownBy wc (some c) := grown_tr hg (grown_tr hga (grown_tr hgb hgc))
      go_wp2_with (at_builtin; go_must (refine wpList_append_src _ rfl _ _ 30 30 rfl 65 i0 _ 3 40 Try.underlying30 hi hz0 hz1 hz2 rfl (by decide) _ _ _ rfl (World.ownsRow.alloc hrow_c _) _ 1 _ rfl (srcOne3 _ _ _ Try.underlying30 _ _ _ _ _ (cell0a _ _ _ _ _) (cell1a _ _ _ _ _) (cell2a _ _ _ _ _)) (fun _ => by decide) hlen1 hlen2 ?_; intro u' w2 hown hgr hnw hnn))
      go_roundw
      case rel =>
        refine ⟨k + 1, by omega, by go_num, ?_, Newer.trans hnew (Nat.le_trans hgg.size (World.grownBy_alloc wc _ none).size) hnw, ?_, grown_own hgg hnew hgr⟩
        · rw [HS.out, HW.out]
          refine Ws.snoc ?_
          rw [← beq_one]
          exact hown
        · rw [HSR.out, HR.out]
          exact cur_own (w := w) hcc hne hgr
      case measure => simp [intOf]; omega
    · obtain rfl : k = n := by omega
      go_wp2_with fail
      go_ret
      exact ⟨_, rfl, by rw [RD.out]; exact hrow, hnew, by rw [RR.out]; exact hcu, hg⟩
end Go.Proofs.Ytneepapppbchnaa
