/- The walks of a file of the disk, the program's: cut and crash. -/
import Derived.Test.YtneepapppbchnaaGreatDFile
namespace Go.Proofs.YtneepapppbchnaaGreat
open Go.RowKit
set_option linter.unusedVariables false

theorem Bd.shape {w : World} {v : Value} {l : List UInt8} (h : Bd w v l) : (v = .slice none 0 0 ∧ l = []) ∨ ∃ g cap, v = .slice (some ⟨g, 0, none⟩) l.length cap ∧ l.length ≤ cap ∧ cap ≤ maxLen ∧ g < w.heap.size := by
  rcases h.2 with ⟨h1, h2⟩ | ⟨g, cap, cur, h1, h3, h4, h5, h6, h7, h8⟩
  · exact .inl ⟨h1, List.eq_nil_of_length_eq_zero h2⟩
  · exact .inr ⟨g, cap, h1, h5, h6, (World.ownsRow.lt h g (by rw [h1]; rfl)).2⟩
theorem cut_out (b o : Nat) (n : Int) (v : Value) (l : List UInt8) (w : World) (hc : w.cell? ⟨b, o, none⟩ = some v) (hv : Bd w v l) (h : n < 0 ∨ (l.length : Int) < n) :
    Calls Tryz.prog 218 #[.pointer (some ⟨b, o, none⟩), .int .i64 n] w fun e w' => e = .returned (.int .i64 1) ∧ w' = w := by
  obtain ⟨a, cap, hva⟩ := own_form hv
  subst hva
  by_cases h0 : n < 0
  · go_enter Tryz.func218, Tryz.ntmps218
    go_wp2_with fail
    go_ret
    exact ⟨rfl, rfl⟩
  · have h1 : (l.length : Int) < n := by omega
    go_enter Tryz.func218, Tryz.ntmps218
    go_wp2_with fail
    go_ret
    exact ⟨rfl, rfl⟩
set_option maxRecDepth 100000 in
theorem cut_in (b o k cap : Nat) (a : Option Addr) (u : Value) (l : List UInt8) (w : World) (hc : w.cell? ⟨b, o, none⟩ = some (.slice a l.length cap)) (hu : w.cell? ⟨b, o + 1, none⟩ = some u) (hf : w.frozen? ⟨b, o, none⟩ = false) (hf1 : w.frozen? ⟨b, o + 1, none⟩ = false) (hv : Bd w (.slice a l.length cap) l) (hk : k ≤ l.length) (hl : l.length ≤ 2000) :
    Calls Tryz.prog 218 #[.pointer (some ⟨b, o, none⟩), .int .i64 (k : Int)] w fun e w' => e = .returned (.int .i64 0) ∧ w' = (w.setCell ⟨b, o, none⟩ (.slice a k cap)).setCell ⟨b, o + 1, none⟩ (.int .i64 (k : Int)) := by
  have hu2 : ∀ x, (w.setCell ⟨b, o, none⟩ x).cell? ⟨b, o + 1, none⟩ = some u := fun x => (set_off x (by omega)).trans hu
  rcases hv.shape with ⟨h1, h2⟩ | ⟨g, c, h1, h2, h3, h4⟩
  · injection h1 with ha _ hcap
    subst ha hcap h2
    obtain rfl : k = 0 := by simpa using hk
    go_enter Tryz.func218, Tryz.ntmps218
    go_wp2_with fail
    refine (keepAll_any b o 0 0 none u _ (set_same _ hc) (hu2 _) (by simpa using hf1)).mono ?_
    rintro e w1 ⟨rfl, rfl⟩
    go_wp2_with fail
    go_ret
    exact ⟨rfl, rfl⟩
  · injection h1 with ha _ hcap
    subst ha hcap
    unfold maxLen at h3
    go_enter Tryz.func218, Tryz.ntmps218
    go_wp2_with fail
    refine (keepAll_any b o k cap (some ⟨g, 0, none⟩) u _ (set_same _ hc) (hu2 _) (by simpa using hf1)).mono ?_
    rintro e w1 ⟨rfl, rfl⟩
    go_wp2_with fail
    go_ret
    exact ⟨rfl, rfl⟩
end Go.Proofs.YtneepapppbchnaaGreat
