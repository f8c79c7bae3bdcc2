/- Any records are read back from their frames, laid one behind another; with one byte another, but of a length, just those ahead of it are; bytes behind them that begin no frame change nothing: the law Reread returns true, whatever its five arguments are, and leaves them as they were. No condition. -/
import Derived.Test.YtneepapppbchnaaRR1
import Derived.WalkKit
import Derived.ProofKit
import Derived.OpenShut
import Derived.ShutString
import Derived.SizedLaws
import Derived.Lib.SmallJoins
import Derived.Deep.Slices
import Derived.Deep.Strs
namespace Go.Proofs.Ytneepapppbchnaa.reread
open Go.ChangeShapes Go.WideShapes Go.ChangeAt Go.RowKit Go.Joins Go.Deep
open Go.ChangeMaps (open_string shut_string)
set_option linter.unusedVariables false

theorem own : ownKnob Try.prog.godebug = none := by kernel_rfl
theorem laidOut : laidOutB Try.prog = true := by kernel_rfl
theorem cells3 : Try.prog.cellsOf 3 = 1 := by kernel_rfl
theorem cells9 : Try.prog.cellsOf 9 = 1 := by kernel_rfl
theorem bytes3 : Try.prog.bytesOf 3 = 8 := by kernel_rfl
theorem bytes9 : Try.prog.bytesOf 9 = 16 := by kernel_rfl

section
variable {H : Type} {enc : TypeId × Value → H} {W : World}
set_option maxRecDepth 100000 in
theorem open_is {base : Nat} {v : Value} {d : DataW H} {p : List MemPlace} (hv : Value.okWide Try.prog W .any base 44 v) (h : DataW.Trod enc Try.prog W 0 (fun _ => true) true 44 v d p) :
    ∃ n, IntsAt W v n ∧ (n = 0 ∨ ∃ elems spare, d = .slice elems spare ∧ n ≤ elems.length + spare.length) := by
  obtain ⟨a, len, cap, rfl⟩ := okWide_slice Try.underlying44 hv
  obtain ⟨fuel, h⟩ := h
  rcases open_slice1 Try.underlying44 cells3 h with ⟨hcs, _⟩ | ⟨a', len', cap', m, k, V, D, Pl, hcs, _, hl, hm, hmm, hx, hel⟩
  · have hcs' : Value.slice a len cap = .slice none 0 0 := by simpa [Value.cells] using hcs
    injection hcs' with e1 e2 e3
    subst e1 e2 e3
    exact ⟨0, ⟨none, 0, rfl, fun i hi => absurd hi (by omega)⟩, .inl rfl⟩
  · have hcs' : Value.slice a len cap = .slice (some a') len' cap' := by simpa [Value.cells] using hcs
    injection hcs' with e1 e2 e3
    subst e1 e2 e3
    have hsp : a'.spot = none := by
      unfold Value.okWide at hv
      rw [Try.underlying44] at hv
      unfold Cell.okWide at hv
      rw [Try.underlying44] at hv
      unfold Cell.ok at hv
      rw [Try.underlying44] at hv
      exact hv.2.2.2.1
    obtain ⟨b, off, sp⟩ := a'
    simp only at hsp
    subst hsp
    have hmc : m = cap := by simpa using hmm
    subst hmc
    refine ⟨len, ⟨_, m, rfl, fun i hi => ?_⟩, .inr ⟨_, _, congrArg Prod.fst hx, by simp⟩⟩
    obtain ⟨hc, ht⟩ := hel i (by omega)
    obtain ⟨z, e, _, hw⟩ := DataW.trod_int Try.underlying3 ht
    simp at e
    rw [e] at hc
    simp only [Addr.add_lit] at hc
    exact ⟨b, off, z, rfl, hc, bounds_i64 hw⟩
set_option maxRecDepth 100000 in
theorem open_ss {base : Nat} {v : Value} {d : DataW H} {p : List MemPlace} (hv : Value.okWide Try.prog W .any base 45 v) (h : DataW.Trod enc Try.prog W 0 (fun _ => true) true 45 v d p) :
    ∃ n, StrsAt W v n ∧ (n = 0 ∨ ∃ elems spare, d = .slice elems spare ∧ n ≤ elems.length + spare.length) := by
  obtain ⟨a, len, cap, rfl⟩ := okWide_slice Try.underlying45 hv
  obtain ⟨fuel, h⟩ := h
  rcases open_slice1 Try.underlying45 cells9 h with ⟨hcs, _⟩ | ⟨a', len', cap', m, k, V, D, Pl, hcs, _, hl, hm, hmm, hx, hel⟩
  · have hcs' : Value.slice a len cap = .slice none 0 0 := by simpa [Value.cells] using hcs
    injection hcs' with e1 e2 e3
    subst e1 e2 e3
    exact ⟨0, ⟨none, 0, rfl, fun i hi => absurd hi (by omega)⟩, .inl rfl⟩
  · have hcs' : Value.slice a len cap = .slice (some a') len' cap' := by simpa [Value.cells] using hcs
    injection hcs' with e1 e2 e3
    subst e1 e2 e3
    have hsp : a'.spot = none := by
      unfold Value.okWide at hv
      rw [Try.underlying45] at hv
      unfold Cell.okWide at hv
      rw [Try.underlying45] at hv
      unfold Cell.ok at hv
      rw [Try.underlying45] at hv
      exact hv.2.2.2.1
    obtain ⟨b, off, sp⟩ := a'
    simp only at hsp
    subst hsp
    have hmc : m = cap := by simpa using hmm
    subst hmc
    refine ⟨len, ⟨_, m, rfl, fun i hi => ?_⟩, .inr ⟨_, _, congrArg Prod.fst hx, by simp⟩⟩
    obtain ⟨hc, ht⟩ := hel i (by omega)
    obtain ⟨z, e, _, hw⟩ := DataW.trod_string Try.underlying9 ht
    simp at e
    rw [e] at hc
    simp only [Addr.add_lit] at hc
    exact ⟨b, off, z, rfl, hc, hw⟩
end

set_option maxRecDepth 100000 in
theorem lifted (os : Os) (started : os.Started) (H : Type) (enc : TypeId × Value → H) :
    ReturnsInHanded {} Try.checked os 7 .any (Rows.rereadSpec.pre6 enc Try.prog Try.f7 Rows.rereadRow.domain false) (Rows.rereadSpec.post enc Try.prog Try.f7 false true false false) := by
  refine returnsInHanded_of_change_sized (C := Try.checked) own started (by kernel_rfl) Try.func7
    (ChangeSpec.witness6 (enc := enc) (C := Try.checked) false ⟨#[], #[.slice none 0 0, .slice none 0 0, .int .i64 0, .int .i64 0, .string ByteArray.empty], []⟩ 8 (by kernel_rfl) (by kernel_rfl) (by kernel_rfl) (by kernel_rfl)) ?_
  intro W base args ds gs before hval0 hW hcnd hsz _
  have hval : ∀ (j : Nat) t v, Try.f7.params[j]? = some t → args[j]? = some v → Value.okWide Try.prog W .any base t v := hval0
  have hW' := hW
  obtain ⟨p, q, hA0, hV, rfl, hfz, hnd⟩ := hW
  have hA : DataW.TrodAll enc Try.prog W 0 (fun _ => true) true Try.f7.params.toList args.toList ds p := hA0
  rw [Try.params7] at hA hval hsz
  obtain ⟨v0, vs0, d0, ds0, p0, q0, hargs, rfl, rfl, h0, r0⟩ := trodAll_cons hA
  obtain ⟨v1, vs1, d1, ds1, p1, q1, rfl, rfl, rfl, h1, r1⟩ := trodAll_cons r0
  obtain ⟨v2, vs2, d2, ds2, p2, q2, rfl, rfl, rfl, h2, r2⟩ := trodAll_cons r1
  obtain ⟨v3, vs3, d3, ds3, p3, q3, rfl, rfl, rfl, h3, r3⟩ := trodAll_cons r2
  obtain ⟨v4, vs4, d4, ds4, p4, q4, rfl, rfl, rfl, h4, r4⟩ := trodAll_cons r3
  obtain ⟨rfl, rfl, rfl⟩ := trodAll_nil r4
  obtain rfl : args = #[v0, v1, v2, v3, v4] := by cases args; simp_all
  obtain ⟨rfl, rfl⟩ := trodVars_none hV
  have lt0 : ∀ x ∈ p0, x.block < W.heap.size := by obtain ⟨m, hm⟩ := h0; exact DataW.trod_lt m _ _ _ hm
  have lt1 : ∀ x ∈ p1, x.block < W.heap.size := by obtain ⟨m, hm⟩ := h1; exact DataW.trod_lt m _ _ _ hm
  obtain ⟨nr, hi0, hn0⟩ := open_is (hval 0 44 v0 rfl rfl) h0
  obtain ⟨nv, hs1, hn1⟩ := open_ss (hval 1 45 v1 rfl rfl) h1
  obtain ⟨a2, rfl, rfl, rfl, w2⟩ := open_int Try.underlying3 (hval 2 3 v2 rfl rfl) h2
  obtain ⟨a3, rfl, rfl, rfl, w3⟩ := open_int Try.underlying3 (hval 3 3 v3 rfl rfl) h3
  obtain ⟨a4, rfl, rfl, rfl, w4⟩ := open_string Try.underlying9 (hval 4 9 v4 rfl rfl) h4
  have hrb : reachBytes = 140737488351232 := by decide
  have b0 : nr ≤ 140737488355328 := by
    rcases hn0 with h | ⟨elems, spare, he, hl⟩
    · omega
    · have this : (elems.length + spare.length) * Try.prog.bytesOf 3 ≤ reachBytes := sized_slice hsz (j := 0) (t := 44) (e := 3) (elems := elems) (spare := spare) rfl (by rw [he]; rfl) Try.underlying44
      rw [bytes3, hrb] at this
      omega
  have b1 : nv ≤ 140737488355328 := by
    rcases hn1 with h | ⟨elems, spare, he, hl⟩
    · omega
    · have this : (elems.length + spare.length) * Try.prog.bytesOf 9 ≤ reachBytes := sized_slice hsz (j := 1) (t := 45) (e := 9) (elems := elems) (spare := spare) rfl (by rw [he]; rfl) Try.underlying45
      rw [bytes9, hrb] at this
      omega
  have b4 : a4.data.toList.length ≤ 140737488351232 := by
    have := sized_string hsz (j := 4) (t := 9) (bytes := a4.data.toList) rfl rfl
    rwa [hrb] at this
  clear hA0 hval0
  have hc := Reread_any v0 v1 nr nv a2 a3 a4.data.toList W hi0 hs1 b0 b1 (bounds_i64 w2) (bounds_i64 w3) b4
  rw [← text_self] at hc
  refine hc.mono fun e W' ⟨he, bel⟩ => ?_
  subst he
  exact ⟨_, rfl, _, _, _, [], _, [], hW', trodAll_mk1 (shut_bool Try.underlying4 _), (trodAll_cons_mk (Below.trod laidOut (by kernel_rfl) (of_decide_eq_true (by kernel_rfl)) h0 bel lt0) (trodAll_cons_mk (Below.trod laidOut (by kernel_rfl) (of_decide_eq_true (by kernel_rfl)) h1 bel lt1) (trodAll_cons_mk (shut_int Try.underlying3 w2) (trodAll_cons_mk (shut_int Try.underlying3 w3) (trodAll_cons_mk (shut_string Try.underlying9 w4) trodAll_mk0))))), rfl, bel.frame _, fun h => by cases h⟩

theorem over : Rows.rereadRow.holds Try.pinned (OpenSpec.ofChange Rows.rereadSpec) :=
  OpenClaim.holds_of_wide 7 Try.f7 rfl rfl rfl rfl rfl rfl rfl ⟨rfl, rfl, rfl, rfl, rfl⟩ rfl rfl rfl rfl rfl (by kernel_rfl) Try.func7 (by kernel_rfl)
    (of_decide_eq_true (by kernel_rfl)) (by unfold Func.isWrapper; first | (rw [if_pos (by decide +kernel)]; kernel_rfl) | (rw [if_neg (by decide +kernel)]; exact ⟨rfl, rfl⟩))
    (fun os started H enc _ => lifted os started H enc)
end Go.Proofs.Ytneepapppbchnaa.reread
namespace Go.Proofs.Ytneepapppbchnaa
theorem reread_holds : Rows.RereadSaid := reread.over
end Go.Proofs.Ytneepapppbchnaa
