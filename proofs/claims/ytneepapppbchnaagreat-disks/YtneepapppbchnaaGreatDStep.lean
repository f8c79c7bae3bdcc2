/- The walks of disk and step. -/
import Derived.Test.YtneepapppbchnaaGreatDWA
namespace Go.Proofs.YtneepapppbchnaaGreat
open Go.RowKit
set_option linter.unusedVariables false

theorem Tryz.infoPlate : (Tryz.prog.info? 100).map (fun i => (i.zero, i.size, i.bytes)) = some (some (.agg #[.pointer none, .pointer none]), 2, 16) := by kernel_rfl
/-- behind a step -/
def Stepped (w w' : World) (wb T B n : Nat) : Prop := (∃ v pls P, WA w' wb v pls T B P ∧ pls.length = n) ∧ Below B w w'
theorem oneSrc {P : Program} (w : World) (t e : TypeId) (ht : P.underlying t = some (.slice e)) (g c : Nat) (p q : Addr) (h0 : w.cell? ⟨g, 0, none⟩ = some (.pointer (some p))) (h1 : w.cell? ⟨g, 1, none⟩ = some (.pointer (some q))) : Src P 2 t (.slice (some ⟨g, 0, none⟩) 1 c) 1 [.pointer (some p), .pointer (some q)] w :=
  Src.ofSlice w ht _ 1 c _ rfl (fun j u hu => by
    match j with
    | 0 => simp at hu; subst hu; simpa [Addr.add_lit] using h0
    | 1 => simp at hu; subst hu; simpa [Addr.add_lit] using h1
    | j + 2 => simp at hu) (fun u hu => by simp at hu; rcases hu with rfl | rfl <;> rfl)
set_option maxRecDepth 100000 in
theorem disk_any (wb T B : Nat) (v : Value) (pls : List (Nat × Nat)) (P : Nat → Nat → Prop) (w : World) (h : WA w wb v pls T B P) (hl : pls.length ≤ 4000000000000) :
    Calls Tryz.prog 42 #[.pointer (some ⟨wb, 0, none⟩)] w fun e w' => e = .returned (.bool true) ∧ Stepped w w' wb T B (pls.length + 1) := by
  have H := hide h
  obtain ⟨i0, hi, hz0, hz1, hz2⟩ := info_parts Tryz.infoPlate
  have hl1 : pls.length + 1 ≤ maxLen := by unfold maxLen; omega
  have hl2 : (pls.length + 1) * 16 ≤ 140737488355328 := by omega
  clear h
  go_enter Tryz.func42, Tryz.ntmps42
  go_wp2_with fail
  refine (pNewDisk_any _).mono ?_
  rintro e w1 ⟨rfl, o1, s1, p1⟩
  have O1 := hide o1
  have S1 := hide s1
  have P1 := hide p1
  clear o1 s1 p1
  go_wp2_with fail
  refine (rNewDisk_any _).mono ?_
  rintro e w2 ⟨rfl, o2, s2, p2⟩
  have hs1 := S1.out
  rw [hs1] at p2 s2 ⊢
  have o12 : Only (fun _ => False) w w2 := O1.out.trans o2 (fun _ _ q => q)
  have hW2 := H.out.kept o12
  have c4 := hW2.c4
  obtain ⟨va, vc, hva⟩ := own_form hW2.row
  have hpl : Plate w2 w.heap.size (w.heap.size + 1) fm0 T (fun x => x = w.heap.size) := ⟨⟨0, _, P1.out.kept o2 (fun _ _ q => q), Nat.zero_le _⟩, ⟨0, 0, p2⟩, fun e => by have e' : w.heap.size + 1 = w.heap.size := e; omega, fun k hk => ⟨Nat.zero_le _, Nat.zero_le _, by show (0 : Nat) < _; omega⟩⟩
  have HO := hide o12
  have HPL := hide hpl
  have hwl := hW2.wlt
  have f4 := hW2.fz 4
  have HRW := hide hW2.row
  have hvw : v.ownBlock ≠ some wb := fun q => (H.out.vb wb q).1 rfl
  have HEND : Hid (∀ v' w3, (w2.alloc (.cells #[.pointer (some ⟨w.heap.size, 0, none⟩), .pointer (some ⟨(w.heap.size + 1), 0, none⟩)] 100)).grownBy w3 v.ownBlock → Newer (w2.alloc (.cells #[.pointer (some ⟨w.heap.size, 0, none⟩), .pointer (some ⟨(w.heap.size + 1), 0, none⟩)] 100)) v v' → w3.ownsRow 0 100 2 v' (pls.length + 1) (plCells pls ++ [.pointer (some ⟨w.heap.size, 0, none⟩), .pointer (some ⟨(w.heap.size + 1), 0, none⟩)]) → Stepped w (w3.setCell ⟨wb, 4, none⟩ v') wb T B (pls.length + 1)) := by
    intro v' w3 hg hn hrow
    have o3 : Only (fun _ => False) w2 (w2.alloc (.cells #[.pointer (some ⟨w.heap.size, 0, none⟩), .pointer (some ⟨(w.heap.size + 1), 0, none⟩)] 100)) := (Only.refl _ w2).alloc _
    obtain ⟨⟨P', q1⟩, q2⟩ := H.out.more (b := w.heap.size) (r := (w.heap.size + 1)) (Nat.le_refl _) (by omega) (by omega) (o12.trans o3 (fun _ _ q => q)) (hpl.kept o3 (fun _ _ q => q)) hg hn hrow
    exact ⟨⟨_, _, P', q1, by simp⟩, q2⟩
  clear o12 hpl hW2 O1 S1 P1 o2 s2 p2 hs1
  subst hva
  go_wp2_with (at_builtin; go_must (refine wpList_append_all _ rfl _ _ 52 52 rfl 100 i0 _ 2 16 Tryz.underlying52 hi hz0 hz1 hz2 rfl (by decide) _ _ _ rfl (World.ownsRow.alloc HRW.out _) _ 1 _ rfl (oneSrc _ _ _ Tryz.underlying52 _ _ _ _ (box_cell (heap_alloc_new _ _) _ _ rfl) (box_cell (heap_alloc_new _ _) _ _ rfl)) hl1 hl2 ?_; intro u' w3 hown hgr hnew; obtain ⟨ua, uc, hua⟩ := own_form hown; subst hua; have HE := hide (HEND.out _ _ hgr hnew hown); have HGR := hide hgr; clear hown hnew hgr; have eb := HGR.out.block wb (by simp; omega) (fun e => hvw e.symm); have e2 := Below.heap_alloc w2 (.cells #[.pointer (some ⟨w.heap.size, 0, none⟩), .pointer (some ⟨w.heap.size + 1, 0, none⟩)] 100) wb hwl; have hcx := (World.cell?_of_block (eb.trans e2)).trans c4; have hfx := (World.frozen?_of_block (eb.trans e2)).trans f4; clear eb e2))
  go_ret
  exact ⟨rfl, HE.out⟩
end Go.Proofs.YtneepapppbchnaaGreat
