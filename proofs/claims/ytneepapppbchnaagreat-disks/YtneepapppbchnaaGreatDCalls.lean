/- A disk of the program beside the document's: each call of both, whatever the file's number is; the walk of filed. -/
import Derived.Test.YtneepapppbchnaaGreatDPlate
namespace Go.Proofs.YtneepapppbchnaaGreat
open Go.RowKit
set_option linter.unusedVariables false
variable {tk : Nat}

theorem in_nat {f : Int} (h : 0 ≤ f ∧ f < 7) : ∃ k : Nat, k < 7 ∧ f = (k : Int) ∧ f.toNat = k := ⟨f.toNat, by omega, by omega, rfl⟩
theorem not_in {f : Int} (h : ¬ (0 ≤ f ∧ f < 7)) : f < 0 ∨ 7 ≤ f := by omega
def appD (fs : Nat → Fm) (f : Int) (s : List UInt8) : Int × (Nat → Fm) := if 0 ≤ f ∧ f < 7 then ((appF (fs f.toNat) s).1, upd fs f.toNat (appF (fs f.toNat) s).2) else (2, fs)
theorem pAppend_any (b : Nat) (f : Int) (s : List UInt8) (vs : Nat → Value) (fs : Nat → Fm) (P : Nat → Prop) (w : World) (h : PD tk w b vs fs P) (hm : ∀ k, k < 7 → (fs k).fine) (hs : s.length ≤ 140737488355328) :
    Calls Tryz.prog 31 #[.pointer (some ⟨b, 0, none⟩), .int .i64 f, .string (textOf s)] w fun e w' => e = .returned (.int .i64 (appD fs f s).1) ∧ PX tk w w' b (appD fs f s).2 P := by
  by_cases hf : 0 ≤ f ∧ f < 7
  · obtain ⟨k, hk, rfl, e⟩ := in_nat hf
    have e2 : appD fs (k : Int) s = ((appF (fs k) s).1, upd fs k (appF (fs k) s).2) := by unfold appD; rw [if_pos hf, e]
    rw [e2]
    exact pAppend_in b k s vs fs P w h hk (hm k hk) hs
  · have e2 : appD fs f s = (2, fs) := by unfold appD; rw [if_neg hf]
    rw [e2]
    refine (pAppend_out b f _ w (not_in hf)).mono ?_
    rintro e w' ⟨rfl, rfl⟩
    exact ⟨rfl, h.stay⟩
theorem rAppend_any (r : Nat) (f : Int) (s : List UInt8) (fs : Nat → Fm) (us st : Int) (w : World) (h : RD w r fs us st) (hm : ∀ k, k < 7 → (fs k).fine) (hs : s.length ≤ 140737488355328) :
    Calls Tryz.prog 78 #[.pointer (some ⟨r, 0, none⟩), .int .i64 f, .string (textOf s)] w fun e w' => e = .returned (.int .i64 (appD fs f s).1) ∧ RD w' r (appD fs f s).2 us st ∧ Only (fun x => x = r) w w' := by
  by_cases hf : 0 ≤ f ∧ f < 7
  · obtain ⟨k, hk, rfl, e⟩ := in_nat hf
    have e2 : appD fs (k : Int) s = ((appF (fs k) s).1, upd fs k (appF (fs k) s).2) := by unfold appD; rw [if_pos hf, e]
    rw [e2]
    exact rAppend_in r k s fs us st w h hk (hm k hk) hs
  · have e2 : appD fs f s = (2, fs) := by unfold appD; rw [if_neg hf]
    rw [e2]
    refine (rAppend_out r f _ w (not_in hf)).mono ?_
    rintro e w' ⟨rfl, rfl⟩
    exact ⟨rfl, h, Only.refl _ _⟩
theorem appD_fine {T : Nat} {fs : Nat → Fm} (f : Int) (s : List UInt8) (h : ∀ k, k < 7 → (fs k).fineT T) : ∀ k, k < 7 → ((appD fs f s).2 k).fineT (T + 1) := by
  unfold appD
  split
  · rename_i hf
    exact fineT_upd h (fineT_app s (h _ (by omega)))
  · intro k hk
    exact fineT_mono (h k hk) (by omega)
def syncD (fs : Nat → Fm) (f : Int) : Int × (Nat → Fm) := if 0 ≤ f ∧ f < 7 then ((syncF (fs f.toNat)).1, upd fs f.toNat (syncF (fs f.toNat)).2) else (2, fs)
theorem pSync_any (b : Nat) (f : Int) (vs : Nat → Value) (fs : Nat → Fm) (P : Nat → Prop) (w : World) (h : PD tk w b vs fs P) (hm : ∀ k, k < 7 → (fs k).fine) :
    Calls Tryz.prog 32 #[.pointer (some ⟨b, 0, none⟩), .int .i64 f] w fun e w' => e = .returned (.int .i64 (syncD fs f).1) ∧ PX tk w w' b (syncD fs f).2 P := by
  by_cases hf : 0 ≤ f ∧ f < 7
  · obtain ⟨k, hk, rfl, e⟩ := in_nat hf
    have e2 : syncD fs (k : Int) = ((syncF (fs k)).1, upd fs k (syncF (fs k)).2) := by unfold syncD; rw [if_pos hf, e]
    rw [e2]
    exact pSync_in b k vs fs P w h hk (hm k hk)
  · have e2 : syncD fs f = (2, fs) := by unfold syncD; rw [if_neg hf]
    rw [e2]
    refine (pSync_out b f w (not_in hf)).mono ?_
    rintro e w' ⟨rfl, rfl⟩
    exact ⟨rfl, h.stay⟩
theorem rSync_any (r : Nat) (f : Int) (fs : Nat → Fm) (us st : Int) (w : World) (h : RD w r fs us st) (hm : ∀ k, k < 7 → (fs k).fine) :
    Calls Tryz.prog 79 #[.pointer (some ⟨r, 0, none⟩), .int .i64 f] w fun e w' => e = .returned (.int .i64 (syncD fs f).1) ∧ RD w' r (syncD fs f).2 us st ∧ Only (fun x => x = r) w w' := by
  by_cases hf : 0 ≤ f ∧ f < 7
  · obtain ⟨k, hk, rfl, e⟩ := in_nat hf
    have e2 : syncD fs (k : Int) = ((syncF (fs k)).1, upd fs k (syncF (fs k)).2) := by unfold syncD; rw [if_pos hf, e]
    rw [e2]
    exact rSync_in r k fs us st w h hk (hm k hk)
  · have e2 : syncD fs f = (2, fs) := by unfold syncD; rw [if_neg hf]
    rw [e2]
    refine (rSync_out r f w (not_in hf)).mono ?_
    rintro e w' ⟨rfl, rfl⟩
    exact ⟨rfl, h, Only.refl _ _⟩
theorem syncD_fine {T : Nat} {fs : Nat → Fm} (f : Int) (h : ∀ k, k < 7 → (fs k).fineT T) : ∀ k, k < 7 → ((syncD fs f).2 k).fineT (T + 1) := by
  unfold syncD
  split
  · rename_i hf
    exact fineT_upd h (fineT_sync (h _ (by omega)))
  · intro k hk
    exact fineT_mono (h k hk) (by omega)
def cutD (fs : Nat → Fm) (f : Int) (n : Int) : Int × (Nat → Fm) := if 0 ≤ f ∧ f < 7 then ((cutF (fs f.toNat) n).1, upd fs f.toNat (cutF (fs f.toNat) n).2) else (2, fs)
theorem pCut_any (b : Nat) (f : Int) (n : Int) (vs : Nat → Value) (fs : Nat → Fm) (P : Nat → Prop) (w : World) (h : PD tk w b vs fs P) (hm : ∀ k, k < 7 → (fs k).fine) :
    Calls Tryz.prog 80 #[.pointer (some ⟨b, 0, none⟩), .int .i64 f, .int .i64 n] w fun e w' => e = .returned (.int .i64 (cutD fs f n).1) ∧ PX tk w w' b (cutD fs f n).2 P := by
  by_cases hf : 0 ≤ f ∧ f < 7
  · obtain ⟨k, hk, rfl, e⟩ := in_nat hf
    have e2 : cutD fs (k : Int) n = ((cutF (fs k) n).1, upd fs k (cutF (fs k) n).2) := by unfold cutD; rw [if_pos hf, e]
    rw [e2]
    exact pCut_in b k n vs fs P w h hk (hm k hk)
  · have e2 : cutD fs f n = (2, fs) := by unfold cutD; rw [if_neg hf]
    rw [e2]
    refine (pCut_out b f _ w (not_in hf)).mono ?_
    rintro e w' ⟨rfl, rfl⟩
    exact ⟨rfl, h.stay⟩
theorem rCut_any (r : Nat) (f : Int) (n : Int) (fs : Nat → Fm) (us st : Int) (w : World) (h : RD w r fs us st) (hm : ∀ k, k < 7 → (fs k).fine) :
    Calls Tryz.prog 81 #[.pointer (some ⟨r, 0, none⟩), .int .i64 f, .int .i64 n] w fun e w' => e = .returned (.int .i64 (cutD fs f n).1) ∧ RD w' r (cutD fs f n).2 us st ∧ Only (fun x => x = r) w w' := by
  by_cases hf : 0 ≤ f ∧ f < 7
  · obtain ⟨k, hk, rfl, e⟩ := in_nat hf
    have e2 : cutD fs (k : Int) n = ((cutF (fs k) n).1, upd fs k (cutF (fs k) n).2) := by unfold cutD; rw [if_pos hf, e]
    rw [e2]
    exact rCut_in r k n fs us st w h hk (hm k hk)
  · have e2 : cutD fs f n = (2, fs) := by unfold cutD; rw [if_neg hf]
    rw [e2]
    refine (rCut_out r f _ w (not_in hf)).mono ?_
    rintro e w' ⟨rfl, rfl⟩
    exact ⟨rfl, h, Only.refl _ _⟩
theorem cutD_fine {T : Nat} {fs : Nat → Fm} (f : Int) (n : Int) (h : ∀ k, k < 7 → (fs k).fineT T) : ∀ k, k < 7 → ((cutD fs f n).2 k).fineT (T + 1) := by
  unfold cutD
  split
  · rename_i hf
    exact fineT_upd h (fineT_cut n (h _ (by omega)))
  · intro k hk
    exact fineT_mono (h k hk) (by omega)
def troubleD (fs : Nat → Fm) (f : Int) (n : Int) : Int × (Nat → Fm) := if 0 ≤ f ∧ f < 7 then ((troubleF (fs f.toNat) n).1, upd fs f.toNat (troubleF (fs f.toNat) n).2) else (2, fs)
theorem pTrouble_any (b : Nat) (f : Int) (n : Int) (vs : Nat → Value) (fs : Nat → Fm) (P : Nat → Prop) (w : World) (h : PD tk w b vs fs P) (hm : ∀ k, k < 7 → (fs k).fine) :
    Calls Tryz.prog 24 #[.pointer (some ⟨b, 0, none⟩), .int .i64 f, .int .i64 n] w fun e w' => e = .returned (.int .i64 (troubleD fs f n).1) ∧ PX tk w w' b (troubleD fs f n).2 P := by
  by_cases hf : 0 ≤ f ∧ f < 7
  · obtain ⟨k, hk, rfl, e⟩ := in_nat hf
    have e2 : troubleD fs (k : Int) n = ((troubleF (fs k) n).1, upd fs k (troubleF (fs k) n).2) := by unfold troubleD; rw [if_pos hf, e]
    rw [e2]
    exact pTrouble_in b k n vs fs P w h hk
  · have e2 : troubleD fs f n = (2, fs) := by unfold troubleD; rw [if_neg hf]
    rw [e2]
    refine (pTrouble_out b f _ w (not_in hf)).mono ?_
    rintro e w' ⟨rfl, rfl⟩
    exact ⟨rfl, h.stay⟩
theorem rTrouble_any (r : Nat) (f : Int) (n : Int) (fs : Nat → Fm) (us st : Int) (w : World) (h : RD w r fs us st) (hm : ∀ k, k < 7 → (fs k).fine) :
    Calls Tryz.prog 84 #[.pointer (some ⟨r, 0, none⟩), .int .i64 f, .int .i64 n] w fun e w' => e = .returned (.int .i64 (troubleD fs f n).1) ∧ RD w' r (troubleD fs f n).2 us st ∧ Only (fun x => x = r) w w' := by
  by_cases hf : 0 ≤ f ∧ f < 7
  · obtain ⟨k, hk, rfl, e⟩ := in_nat hf
    have e2 : troubleD fs (k : Int) n = ((troubleF (fs k) n).1, upd fs k (troubleF (fs k) n).2) := by unfold troubleD; rw [if_pos hf, e]
    rw [e2]
    exact rTrouble_in r k n fs us st w h hk
  · have e2 : troubleD fs f n = (2, fs) := by unfold troubleD; rw [if_neg hf]
    rw [e2]
    refine (rTrouble_out r f _ w (not_in hf)).mono ?_
    rintro e w' ⟨rfl, rfl⟩
    exact ⟨rfl, h, Only.refl _ _⟩
theorem troubleD_fine {T : Nat} {fs : Nat → Fm} (f : Int) (n : Int) (hn : n < 9223372036854775808) (h : ∀ k, k < 7 → (fs k).fineT T) : ∀ k, k < 7 → ((troubleD fs f n).2 k).fineT (T + 1) := by
  unfold troubleD
  split
  · rename_i hf
    exact fineT_upd h (fineT_trouble n hn (h _ (by omega)))
  · intro k hk
    exact fineT_mono (h k hk) (by omega)
def readD (fs : Nat → Fm) (f : Int) : (List UInt8 × Int) × (Nat → Fm) := if 0 ≤ f ∧ f < 7 then (readF (fs f.toNat), upd fs f.toNat (fs f.toNat).tick) else (([], 2), fs)
theorem pRead_any (b : Nat) (f : Int) (vs : Nat → Value) (fs : Nat → Fm) (P : Nat → Prop) (w : World) (h : PD tk w b vs fs P) (hm : ∀ k, k < 7 → (fs k).fine) :
    Calls Tryz.prog 30 #[.pointer (some ⟨b, 0, none⟩), .int .i64 f] w fun e w' => e = .returned (.tuple #[.string (textOf (readD fs f).1.1), .int .i64 (readD fs f).1.2]) ∧ PX tk w w' b (readD fs f).2 P := by
  by_cases hf : 0 ≤ f ∧ f < 7
  · obtain ⟨k, hk, rfl, e⟩ := in_nat hf
    have e2 : readD fs (k : Int) = (readF (fs k), upd fs k (fs k).tick) := by unfold readD; rw [if_pos hf, e]
    rw [e2]
    exact pRead_in b k vs fs P w h hk (hm k hk)
  · have e2 : readD fs f = (([], 2), fs) := by unfold readD; rw [if_neg hf]
    rw [e2]
    refine (pRead_out b f w (not_in hf)).mono ?_
    rintro e w' ⟨rfl, rfl⟩
    exact ⟨rfl, h.stay⟩
theorem rRead_any (r : Nat) (f : Int) (fs : Nat → Fm) (us st : Int) (w : World) (h : RD w r fs us st) (hm : ∀ k, k < 7 → (fs k).fine) :
    Calls Tryz.prog 82 #[.pointer (some ⟨r, 0, none⟩), .int .i64 f] w fun e w' => e = .returned (.tuple #[.string (textOf (readD fs f).1.1), .int .i64 (readD fs f).1.2]) ∧ RD w' r (readD fs f).2 us st ∧ Only (fun x => x = r) w w' := by
  by_cases hf : 0 ≤ f ∧ f < 7
  · obtain ⟨k, hk, rfl, e⟩ := in_nat hf
    have e2 : readD fs (k : Int) = (readF (fs k), upd fs k (fs k).tick) := by unfold readD; rw [if_pos hf, e]
    rw [e2]
    exact rRead_in r k fs us st w h hk (hm k hk)
  · have e2 : readD fs f = (([], 2), fs) := by unfold readD; rw [if_neg hf]
    rw [e2]
    refine (rRead_out r f w (not_in hf)).mono ?_
    rintro e w' ⟨rfl, rfl⟩
    exact ⟨rfl, h, Only.refl _ _⟩
theorem readD_fine {T : Nat} {fs : Nat → Fm} (f : Int) (h : ∀ k, k < 7 → (fs k).fineT T) : ∀ k, k < 7 → ((readD fs f).2 k).fineT (T + 1) := by
  unfold readD
  split
  · rename_i hf
    exact fineT_upd h (fineT_tick (h _ (by omega)))
  · intro k hk
    exact fineT_mono (h k hk) (by omega)
theorem crashed_fine {T : Nat} {fs : Nat → Fm} (keep : Int) (junk : List UInt8) (h : ∀ k, k < 7 → (fs k).fineT T) : ∀ k, k < 7 → (crashed fs keep junk 7 k).fineT (T + 1) := by
  intro k hk
  unfold crashed
  rw [if_pos hk]
  exact fineT_crash keep junk (h k hk)
end Go.Proofs.YtneepapppbchnaaGreat
