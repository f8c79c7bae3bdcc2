/- The disk of the document's answer: the walks of Append, Sync, Cut, Read, Trouble. -/
import Derived.Test.YtneepapppbchnaaGreatDRef
namespace Go.Proofs.YtneepapppbchnaaGreat
open Go.RowKit
set_option linter.unusedVariables false

def appF (m : Fm) (s : List UInt8) : Int × Fm := if m.turns + 1 = m.due then (3, m.tick) else if 2000 < m.bytes.length + s.length then (4, m.tick) else (0, { m.tick with late := m.late ++ s })
def syncF (m : Fm) : Int × Fm := if m.turns + 1 = m.due then (3, m.tick) else (0, m.tick.all)
def cutF (m : Fm) (n : Int) : Int × Fm := if m.turns + 1 = m.due then (3, m.tick) else if n < 0 ∨ (m.bytes.length : Int) < n then (1, m.tick) else (0, { m.tick with lasts := m.bytes.take n.toNat, late := [] })
def readF (m : Fm) : List UInt8 × Int := if m.turns + 1 = m.due then ([], 3) else (m.bytes, 0)
def troubleF (m : Fm) (k : Int) : Int × Fm := if k < 0 then (1, m) else (0, { m with turns := 0, due := k.toNat })
theorem rAppend_out (r : Nat) (f : Int) (s : ByteArray) (w : World) (hf : f < 0 ∨ 7 ≤ f) :
    Calls Tryz.prog 78 #[.pointer (some ⟨r, 0, none⟩), .int .i64 f, .string s] w fun e w' => e = .returned (.int .i64 2) ∧ w' = w := by
  go_enter Tryz.func78, Tryz.ntmps78
  go_wp2_with fail
  refine (rturn_out r f _ hf).mono ?_
  rintro e w1 ⟨rfl, rfl⟩
  go_wp2_with fail
  go_ret
  exact ⟨rfl, rfl⟩
theorem rSync_out (r : Nat) (f : Int) (w : World) (hf : f < 0 ∨ 7 ≤ f) :
    Calls Tryz.prog 79 #[.pointer (some ⟨r, 0, none⟩), .int .i64 f] w fun e w' => e = .returned (.int .i64 2) ∧ w' = w := by
  go_enter Tryz.func79, Tryz.ntmps79
  go_wp2_with fail
  refine (rturn_out r f _ hf).mono ?_
  rintro e w1 ⟨rfl, rfl⟩
  go_wp2_with fail
  go_ret
  exact ⟨rfl, rfl⟩
theorem rCut_out (r : Nat) (f n : Int) (w : World) (hf : f < 0 ∨ 7 ≤ f) :
    Calls Tryz.prog 81 #[.pointer (some ⟨r, 0, none⟩), .int .i64 f, .int .i64 n] w fun e w' => e = .returned (.int .i64 2) ∧ w' = w := by
  go_enter Tryz.func81, Tryz.ntmps81
  go_wp2_with fail
  refine (rturn_out r f _ hf).mono ?_
  rintro e w1 ⟨rfl, rfl⟩
  go_wp2_with fail
  go_ret
  exact ⟨rfl, rfl⟩
theorem rRead_out (r : Nat) (f : Int) (w : World) (hf : f < 0 ∨ 7 ≤ f) :
    Calls Tryz.prog 82 #[.pointer (some ⟨r, 0, none⟩), .int .i64 f] w fun e w' => e = .returned (.tuple #[.string ⟨#[]⟩, .int .i64 2]) ∧ w' = w := by
  go_enter Tryz.func82, Tryz.ntmps82
  go_wp2_with fail
  refine (rturn_out r f _ hf).mono ?_
  rintro e w1 ⟨rfl, rfl⟩
  go_wp2_with fail
  go_ret2
  exact ⟨rfl, rfl⟩
theorem rTrouble_out (r : Nat) (f n : Int) (w : World) (hf : f < 0 ∨ 7 ≤ f) :
    Calls Tryz.prog 84 #[.pointer (some ⟨r, 0, none⟩), .int .i64 f, .int .i64 n] w fun e w' => e = .returned (.int .i64 2) ∧ w' = w := by
  by_cases h0 : f < 0
  · go_enter Tryz.func84, Tryz.ntmps84
    go_wp2_with fail
    go_ret
    exact ⟨rfl, rfl⟩
  · have h7 : 7 ≤ f := by omega
    go_enter Tryz.func84, Tryz.ntmps84
    go_wp2_with fail
    go_ret
    exact ⟨rfl, rfl⟩
theorem upd_same {α : Type} (f : Nat → α) (k : Nat) : upd f k (f k) = f := by
  funext j; unfold upd; split
  · rename_i h; rw [h]
  · rfl
set_option maxRecDepth 100000 in
theorem rTrouble_in (r k : Nat) (n : Int) (fs : Nat → Fm) (us st : Int) (w : World) (h : RD w r fs us st) (hk : k < 7) :
    Calls Tryz.prog 84 #[.pointer (some ⟨r, 0, none⟩), .int .i64 (k : Int), .int .i64 n] w fun e w' => e = .returned (.int .i64 (troubleF (fs k) n).1) ∧ RD w' r (upd fs k (troubleF (fs k) n).2) us st ∧ Only (fun x => x = r) w w' := by
  have hk0 : (0 : Int) ≤ (k : Int) := by omega
  have hk7 : (k : Int) < 7 := by omega
  by_cases h0 : n < 0
  · have hz : troubleF (fs k) n = (1, fs k) := if_pos h0
    rw [hz, upd_same]
    dsimp only
    have H := hide h
    clear hz h
    go_enter Tryz.func84, Tryz.ntmps84
    go_wp2_with fail
    go_ret
    exact ⟨rfl, H.out, Only.refl _ _⟩
  · have hz : troubleF (fs k) n = (0, { fs k with turns := 0, due := n.toNat }) := if_neg h0
    rw [hz]
    dsimp only
    have c2 := h.c2 hk
    have c3 := h.c3 hk
    have f2 := h.fz (k * 4 + 2)
    have f3 := h.fz (k * 4 + 3)
    have q3 : (w.setCell ⟨r, k * 4 + 2, none⟩ (.int .i64 0)).cell? ⟨r, k * 4 + 3, none⟩ = some (.int .i64 ((fs k).due : Int)) := (set_off _ (by omega)).trans c3
    have HP : Hid (RD ((w.setCell ⟨r, k * 4 + 2, none⟩ (.int .i64 0)).setCell ⟨r, k * 4 + 3, none⟩ (.int .i64 n)) r (upd fs k { fs k with turns := 0, due := n.toNat }) us st) := by
      have h1 := h.put hk (i := 2) (by omega) (.int .i64 0) { fs k with turns := 0 } rfl (fun j hj hj2 => by
        match j, hj with
        | 0, _ => rfl
        | 1, _ => rfl
        | 2, _ => exact absurd rfl hj2
        | 3, _ => rfl)
      have h2 := h1.put hk (i := 3) (by omega) (.int .i64 n) { fs k with turns := 0, due := n.toNat } (by simp only [cellR]; congr 1; omega) (fun j hj hj2 => by
        rw [upd_at]
        match j, hj with
        | 0, _ => rfl
        | 1, _ => rfl
        | 2, _ => rfl
        | 3, _ => exact absurd rfl hj2)
      rw [upd_upd] at h2
      exact h2
    clear hz h
    go_enter Tryz.func84, Tryz.ntmps84
    go_wp2_with fail
    go_ret
    exact ⟨rfl, HP.out, (only_set w _ _ _).then (only_set _ _ _ _)⟩
/-- a file within its bounds -/
def Fm.fine (m : Fm) : Prop := m.bytes.length ≤ 2000 ∧ m.turns < 4611686018427387904 ∧ m.due < 9223372036854775808
set_option maxRecDepth 100000 in
theorem rSync_in (r k : Nat) (fs : Nat → Fm) (us st : Int) (w : World) (h : RD w r fs us st) (hk : k < 7) (hm : (fs k).fine) :
    Calls Tryz.prog 79 #[.pointer (some ⟨r, 0, none⟩), .int .i64 (k : Int)] w fun e w' => e = .returned (.int .i64 (syncF (fs k)).1) ∧ RD w' r (upd fs k (syncF (fs k)).2) us st ∧ Only (fun x => x = r) w w' := by
  by_cases h0 : (fs k).fails
  · have hz : syncF (fs k) = (3, (fs k).tick) := if_pos h0
    rw [hz]
    dsimp only
    clear hz
    go_enter Tryz.func79, Tryz.ntmps79
    go_wp2_with fail
    refine (rturn_in r k fs us st _ h hk hm.2.1 hm.2.2).mono ?_
    rintro e w1 ⟨rfl, h1, o1⟩
    rw [failE_pos h0]
    have H1 := hide h1
    have O1 := hide o1
    clear h1 o1 h
    go_wp2_with fail
    go_ret
    exact ⟨rfl, H1.out, O1.out⟩
  · have hz : syncF (fs k) = (0, (fs k).tick.all) := if_neg h0
    rw [hz]
    dsimp only
    clear hz
    go_enter Tryz.func79, Tryz.ntmps79
    go_wp2_with fail
    refine (rturn_in r k fs us st _ h hk hm.2.1 hm.2.2).mono ?_
    rintro e w1 ⟨rfl, h1, o1⟩
    rw [failE_neg h0]
    have H1 := hide h1
    have O1 := hide o1
    clear h1 o1 h
    go_wp2_with fail
    refine (rall_in r k _ us st _ H1.out hk (by rw [upd_at]; exact hm.1)).mono ?_
    rintro e w2 ⟨rfl, h2, o2⟩
    rw [upd_upd, upd_at] at h2
    have H2 := hide h2
    have O2 := hide o2
    clear h2 o2
    go_wp2_with fail
    go_ret
    exact ⟨rfl, H2.out, O1.out.then O2.out⟩
set_option maxRecDepth 100000 in
theorem rRead_in (r k : Nat) (fs : Nat → Fm) (us st : Int) (w : World) (h : RD w r fs us st) (hk : k < 7) (hm : (fs k).fine) :
    Calls Tryz.prog 82 #[.pointer (some ⟨r, 0, none⟩), .int .i64 (k : Int)] w fun e w' => e = .returned (.tuple #[.string (textOf (readF (fs k)).1), .int .i64 (readF (fs k)).2]) ∧ RD w' r (upd fs k (fs k).tick) us st ∧ Only (fun x => x = r) w w' := by
  have hk0 : (0 : Int) ≤ (k : Int) := by omega
  have hk7 : (k : Int) < 7 := by omega
  by_cases h0 : (fs k).fails
  · have hz : readF (fs k) = ([], 3) := if_pos h0
    rw [hz]
    dsimp only
    clear hz
    go_enter Tryz.func82, Tryz.ntmps82
    go_wp2_with fail
    refine (rturn_in r k fs us st _ h hk hm.2.1 hm.2.2).mono ?_
    rintro e w1 ⟨rfl, h1, o1⟩
    rw [failE_pos h0]
    have H1 := hide h1
    have O1 := hide o1
    clear h1 o1 h
    go_wp2_with fail
    go_ret2
    exact ⟨rfl, H1.out, O1.out⟩
  · have hz : readF (fs k) = ((fs k).bytes, 0) := if_neg h0
    rw [hz]
    dsimp only
    clear hz
    go_enter Tryz.func82, Tryz.ntmps82
    go_wp2_with fail
    refine (rturn_in r k fs us st _ h hk hm.2.1 hm.2.2).mono ?_
    rintro e w1 ⟨rfl, h1, o1⟩
    rw [failE_neg h0]
    have c0 := h1.c0 hk
    have c1 := h1.c1 hk
    rw [upd_at] at c0 c1
    have hsz : ¬ 9223372036854775807 < (textOf (fs k).tick.lasts).size + (textOf (fs k).tick.late).size := by
      have hl := hm.1
      unfold Fm.bytes at hl
      rw [List.length_append] at hl
      rw [textOf_size, textOf_size]
      show ¬ 9223372036854775807 < (fs k).lasts.length + (fs k).late.length
      omega
    have HT : Hid (textOf (fs k).tick.lasts ++ textOf (fs k).tick.late = textOf (fs k).bytes) := by
      show _ = _
      rw [textOf_append]; rfl
    generalize textOf (fs k).tick.lasts = la at *
    generalize textOf (fs k).tick.late = lt at *
    have H1 := hide h1
    have O1 := hide o1
    clear h1 o1 h
    go_wp2_with fail
    go_quiet (fail)
    go_wp2_with fail
    go_ret2
    exact ⟨by rw [← HT.out]; rfl, H1.out.like ((Like.refl _).drewN _), O1.out.then (((Like.refl _).drewN _).only _)⟩
end Go.Proofs.YtneepapppbchnaaGreat
