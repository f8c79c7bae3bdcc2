/- The walks of a file of the disk, the program's: find, fails, turn, keepAll, lay, cut. -/
import Derived.Test.YtneepapppbchnaaGreatRows
import Derived.Test.YtneepapppbchnaaGreatOwn
import Derived.WalkKit
import Derived.BigQuiet
namespace Go.Proofs.YtneepapppbchnaaGreat
open Go.RowKit
set_option linter.unusedVariables false

/-- a file: what lasts, what does not yet; its turns, and which one is to fail -/
structure Fm where
  lasts : List UInt8
  late : List UInt8
  turns : Nat
  due : Nat
def Fm.bytes (m : Fm) : List UInt8 := m.lasts ++ m.late
def Fm.left (m : Fm) : Nat := m.due - m.turns

theorem files_any (b : Nat) (w : World) :
    Calls Tryz.prog 54 #[.pointer (some ⟨b, 0, none⟩)] w fun e w' => e = .returned (.pointer (some ⟨b, 0, none⟩)) ∧ w' = w := by
  go_enter Tryz.func54, Tryz.ntmps54
  go_wp2_with fail
  go_ret
  exact ⟨rfl, rfl⟩
theorem find_in (b k : Nat) (w : World) (hk : k < 7) :
    Calls Tryz.prog 117 #[.pointer (some ⟨b, 0, none⟩), .int .i64 (k : Int)] w fun e w' => e = .returned (.pointer (some ⟨b, k * 3, none⟩)) ∧ w' = w := by
  go_enter Tryz.func117, Tryz.ntmps117
  go_wp2_with fail
  go_ret
  exact ⟨rfl, rfl⟩
theorem find_out (b : Nat) (f : Int) (w : World) (hf : f < 0 ∨ 7 ≤ f) :
    Calls Tryz.prog 117 #[.pointer (some ⟨b, 0, none⟩), .int .i64 f] w fun e w' => e = .returned (.pointer none) ∧ w' = w := by
  by_cases h0 : f < 0
  · go_enter Tryz.func117, Tryz.ntmps117
    go_wp2_with fail
    go_ret
    exact ⟨rfl, rfl⟩
  · have h7 : 7 ≤ f := by omega
    go_enter Tryz.func117, Tryz.ntmps117
    go_wp2_with fail
    go_ret
    exact ⟨rfl, rfl⟩
theorem fails_any (b o t : Nat) (w : World) (ht : t < 9223372036854775808) (hc : w.cell? ⟨b, o + 2, none⟩ = some (.int .i64 (t : Int))) (hf : w.frozen? ⟨b, o + 2, none⟩ = false) :
    Calls Tryz.prog 187 #[.pointer (some ⟨b, o, none⟩)] w fun e w' => e = .returned (.bool (decide (t = 1))) ∧ ((t = 0 ∧ w' = w) ∨ (0 < t ∧ w' = w.setCell ⟨b, o + 2, none⟩ (.int .i64 ((t - 1 : Nat) : Int)))) := by
  by_cases h0 : t = 0
  · subst h0
    go_enter Tryz.func187, Tryz.ntmps187
    go_wp2_with fail
    go_ret
    exact ⟨rfl, .inl ⟨trivial, rfl⟩⟩
  · go_enter Tryz.func187, Tryz.ntmps187
    go_wp2_with fail
    go_ret
    have e1 : ((t : Int) - 1 == 0) = decide (t = 1) := by
      by_cases h1 : t = 1
      · subst h1; rfl
      · rw [decide_eq_false h1]; exact beq_eq_false_iff_ne.2 (by omega)
    have e2 : ((t : Int) - 1) = ((t - 1 : Nat) : Int) := by omega
    refine ⟨?_, .inr ⟨by omega, by rw [e2]⟩⟩
    show Ending.returned (.bool ((t : Int) - 1 == 0)) = _
    rw [e1]
theorem keepAll_any (b o n c : Nat) (a : Option Addr) (u : Value) (w : World) (hc : w.cell? ⟨b, o, none⟩ = some (.slice a n c)) (hu : w.cell? ⟨b, o + 1, none⟩ = some u) (hf : w.frozen? ⟨b, o + 1, none⟩ = false) :
    Calls Tryz.prog 129 #[.pointer (some ⟨b, o, none⟩)] w fun e w' => e = .returned (.tuple #[]) ∧ w' = w.setCell ⟨b, o + 1, none⟩ (.int .i64 (n : Int)) := by
  go_enter Tryz.func129, Tryz.ntmps129
  go_wp2_with fail
  exact bodyPost_end (v := .tuple #[]) (by simp [results, Tryz.results129]) rfl ⟨rfl, rfl⟩
/-- what a turn leaves of the count -/
def Ticked (w : World) (b o t : Nat) (w' : World) : Prop := (t = 0 ∧ w' = w) ∨ (0 < t ∧ w' = w.setCell ⟨b, o + 2, none⟩ (.int .i64 ((t - 1 : Nat) : Int)))
theorem turn_out (b : Nat) (f : Int) (w : World) (hf : f < 0 ∨ 7 ≤ f) :
    Calls Tryz.prog 127 #[.pointer (some ⟨b, 0, none⟩), .int .i64 f] w fun e w' => e = .returned (.tuple #[.pointer none, .int .i64 2]) ∧ w' = w := by
  go_enter Tryz.func127, Tryz.ntmps127
  go_wp2_with fail
  refine (find_out b f _ hf).mono ?_
  rintro e w1 ⟨rfl, rfl⟩
  go_wp2_with fail
  go_ret2
  exact ⟨rfl, rfl⟩
theorem turn_fail (b k : Nat) (w : World) (hk : k < 7) (hc : w.cell? ⟨b, k * 3 + 2, none⟩ = some (.int .i64 1)) (hf : w.frozen? ⟨b, k * 3 + 2, none⟩ = false) :
    Calls Tryz.prog 127 #[.pointer (some ⟨b, 0, none⟩), .int .i64 (k : Int)] w fun e w' => e = .returned (.tuple #[.pointer none, .int .i64 3]) ∧ w' = w.setCell ⟨b, k * 3 + 2, none⟩ (.int .i64 0) := by
  go_enter Tryz.func127, Tryz.ntmps127
  go_wp2_with fail
  refine (find_in b k _ hk).mono ?_
  rintro e w1 ⟨rfl, rfl⟩
  go_wp2_with fail
  refine (fails_any b (k * 3) 1 _ (by omega) hc hf).mono ?_
  rintro e w2 ⟨rfl, hw⟩
  obtain ⟨_, rfl⟩ : 0 < 1 ∧ w2 = w1.setCell ⟨b, k * 3 + 2, none⟩ (.int .i64 0) := by
    rcases hw with ⟨h, _⟩ | h
    · omega
    · exact h
  clear hw
  go_wp2_with fail
  go_ret2
  exact ⟨rfl, rfl⟩
theorem turn_ok (b k t : Nat) (w : World) (hk : k < 7) (ht : t < 9223372036854775808) (h1 : t ≠ 1) (hc : w.cell? ⟨b, k * 3 + 2, none⟩ = some (.int .i64 (t : Int))) (hf : w.frozen? ⟨b, k * 3 + 2, none⟩ = false) :
    Calls Tryz.prog 127 #[.pointer (some ⟨b, 0, none⟩), .int .i64 (k : Int)] w fun e w' => e = .returned (.tuple #[.pointer (some ⟨b, k * 3, none⟩), .int .i64 0]) ∧ Ticked w b (k * 3) t w' := by
  go_enter Tryz.func127, Tryz.ntmps127
  go_wp2_with fail
  refine (find_in b k _ hk).mono ?_
  rintro e w1 ⟨rfl, rfl⟩
  go_wp2_with fail
  refine (fails_any b (k * 3) t _ ht hc hf).mono ?_
  rintro e w1 ⟨rfl, hw⟩
  have HW := hide hw
  clear hw
  rw [decide_eq_false h1]
  go_wp2_with fail
  go_ret2
  exact ⟨rfl, HW.out⟩
def byteW (b : UInt8) : Value := .int .u8 (b.toNat : Int)
/-- the slice v is a row of the call's own and holds the bytes l -/
def Bd (w : World) (v : Value) (l : List UInt8) : Prop := w.ownsRow 0 5 1 v l.length (l.map byteW)
theorem Tryz.infoByte : (Tryz.prog.info? 5).map (fun i => (i.zero, i.size, i.bytes)) = some (some (.int .u8 0), 1, 1) := by kernel_rfl
theorem Bd.text {w : World} {v : Value} {l s : List UInt8} (h : w.ownsRow 0 5 1 v (l.length + (textOf s).size) (l.map byteW ++ byteCells (textOf s))) : Bd w v (l ++ s) := by
  unfold Bd
  rw [List.length_append, List.map_append]
  exact h
theorem Bd.cut {w : World} {a : Option Addr} {cap : Nat} {l : List UInt8} (h : Bd w (.slice a l.length cap) l) (k : Nat) (hk : k ≤ l.length) : Bd w (.slice a k cap) (l.take k) := by
  have := own_cut h k hk
  unfold Bd
  rw [List.length_take, Nat.min_eq_left hk, List.map_take]
  simpa using this
/-- behind an Append: the file's slice is another one -/
def Laid (w : World) (b o : Nat) (v : Value) (l : List UInt8) (w' : World) : Prop := ∃ v' w1, w' = w1.setCell ⟨b, o, none⟩ v' ∧ w.grownBy w1 v.ownBlock ∧ Newer w v v' ∧ Bd w1 v' l
theorem lay_full (b o : Nat) (v : Value) (l s : List UInt8) (w : World) (hc : w.cell? ⟨b, o, none⟩ = some v) (hv : Bd w v l) (hl : l.length ≤ 2000) (hs : s.length ≤ maxLen) (h : 2000 < l.length + s.length) :
    Calls Tryz.prog 128 #[.pointer (some ⟨b, o, none⟩), .string (textOf s)] w fun e w' => e = .returned (.int .i64 4) ∧ w' = w := by
  unfold maxLen at hs
  obtain ⟨a, cap, rfl⟩ := own_form hv
  have hz := textOf_size s
  generalize textOf s = st at *
  have hz2 : st.size ≤ 9223372036854775807 := by omega
  have hgt : ((st.size : Int) > 2000 - (l.length : Int)) := by omega
  clear hz
  go_enter Tryz.func128, Tryz.ntmps128
  go_wp2_with fail
  go_ret
  exact ⟨rfl, rfl⟩
set_option maxRecDepth 100000 in
theorem lay_room (b o : Nat) (v : Value) (l s : List UInt8) (w : World) (hc : w.cell? ⟨b, o, none⟩ = some v) (hf : w.frozen? ⟨b, o, none⟩ = false) (hv : Bd w v l) (hb : v.ownBlock ≠ some b) (h : l.length + s.length ≤ 2000) :
    Calls Tryz.prog 128 #[.pointer (some ⟨b, o, none⟩), .string (textOf s)] w fun e w' => e = .returned (.int .i64 0) ∧ Laid w b o v (l ++ s) w' := by
  have hblt : b < w.heap.size := World.block_lt_of_cell? w _ hc
  obtain ⟨i0, hi, hz0, hz1, hz2⟩ := info_parts Tryz.infoByte
  have hz := textOf_size s
  have hl1 : l.length + (textOf s).size ≤ maxLen := by unfold maxLen; omega
  have hl2 : (l.length + (textOf s).size) * 1 ≤ 140737488355328 := by omega
  have hle : ¬ (((textOf s).size : Int) > 2000 - (l.length : Int)) := by omega
  have HB : Hid (∀ (v' : Value) (w' : World), w'.ownsRow 0 5 1 v' (l.length + (textOf s).size) (l.map byteW ++ byteCells (textOf s)) → Bd w' v' (l ++ s)) := fun v' w' h => Bd.text h
  generalize textOf s = st at *
  have hz2' : st.size ≤ 2000 := by omega
  have hlb : l.length ≤ 2000 := by omega
  clear hz
  have HV : Hid (Bd w v l) := hv
  obtain ⟨a, cap, hva⟩ := own_form hv
  subst hva
  go_enter Tryz.func128, Tryz.ntmps128
  go_wp2_with (at_builtin; go_must (refine wpList_append_all _ rfl _ _ 106 9 rfl 5 i0 (.int .u8 0) 1 1 Tryz.underlying106 hi hz0 hz1 hz2 rfl (by decide) _ _ _ rfl hv _ st.size _ rfl (Src.ofString _ Tryz.underlying9 st) hl1 hl2 ?_; intro u' w1 hown hgr hnew; obtain ⟨ua, uc, hua⟩ := own_form hown; subst hua; have HOW := hide hown; have HNW := hide hnew; have HGR := hide hgr; clear hown hnew hgr; have hcx : w1.cell? ⟨b, o, none⟩ = some (.slice a l.length cap) := (World.cell?_of_block (HGR.out.block b hblt (fun e => hb e.symm))).trans hc; have hfx : w1.frozen? ⟨b, o, none⟩ = false := (World.frozen?_of_block (HGR.out.block b hblt (fun e => hb e.symm))).trans hf))
  go_ret
  exact ⟨rfl, _, _, rfl, HGR.out, HNW.out, HB.out _ _ HOW.out⟩
end Go.Proofs.YtneepapppbchnaaGreat
