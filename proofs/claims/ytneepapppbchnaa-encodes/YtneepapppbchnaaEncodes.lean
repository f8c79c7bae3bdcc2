/- For every record the program's Encode answers what the document's Encode answers, and what was handed in stays as it was, its spare room too: the law Encodes returns true, whatever its argument is, and leaves it as it was. No condition. -/
import Derived.Test.YtneepapppbchnaaEncLaw
import Derived.ProofKit
import Derived.OpenShut
import Derived.ShutString
import Derived.SizedLaws
import Derived.Lib.SmallJoins
import Derived.Deep.Slices
import Derived.Deep.Strs
namespace Go.Proofs.Ytneepapppbchnaa.encodes
open Go.ChangeShapes Go.WideShapes Go.ChangeAt Go.RowKit Go.Joins Go.Deep
open Go.ChangeMaps (open_string shut_string)
set_option linter.unusedVariables false

theorem own : ownKnob Try.prog.godebug = none := by kernel_rfl
theorem laidOut : laidOutB Try.prog = true := by kernel_rfl
theorem cells32 : Try.prog.cellsOf 32 = 4 := by kernel_rfl
theorem cells65 : Try.prog.cellsOf 65 = 3 := by kernel_rfl
theorem cells9 : Try.prog.cellsOf 9 = 1 := by kernel_rfl
theorem cells4 : Try.prog.cellsOf 4 = 1 := by kernel_rfl
theorem bytes65 : Try.prog.bytesOf 65 = 40 := by kernel_rfl
theorem types32 : Try.prog.cellTypes Try.prog.depth 32 = some [3, 3, 3, 30] := by kernel_rfl

section
variable {H : Type} {enc : TypeId × Value → H} {W : World}
set_option maxRecDepth 100000 in
/-- a slice of writes that came in -/
theorem open_ws {base n : Nat} {v : Value} {y : DataW H × List MemPlace} (hok : Cell.okWide Try.prog W .any base 30 v) (h : DataW.trod enc Try.prog W 0 (fun _ => true) true n 30 [v] = some y) :
    ∃ ws, WsAt W v ws ∧ SizedAll ws ∧ (ws.length = 0 ∨ ∃ elems spare, y.1 = .slice elems spare ∧ ws.length ≤ elems.length + spare.length) := by
  rcases open_slice Try.underlying30 h with ⟨hcs, _⟩ | ⟨a, len, cap, m, k, D, Pl, hcs, _, hl, hm, hmm, hx, hel⟩
  · injection hcs with hcs
    subst hcs
    exact ⟨[], .inl ⟨rfl, rfl⟩, fun i hi => absurd hi (by simp), .inl rfl⟩
  · injection hcs with hcs
    subst hcs
    have hsp : a.spot = none := by
      unfold Cell.okWide at hok
      rw [Try.underlying30] at hok
      unfold Cell.ok at hok
      rw [Try.underlying30] at hok
      exact hok.2.2.2.1
    obtain ⟨b, off, sp⟩ := a
    simp only at hsp
    subst hsp
    have hmc : m = cap := by simpa using hmm
    subst hmc
    have each : ∀ i, i < len → ∃ r : WrL, r.sized ∧ W.cell? ⟨b, off + i * 3, none⟩ = some (.string r.key) ∧ W.cell? ⟨b, off + i * 3 + 1, none⟩ = some (.bool r.dead) ∧ W.cell? ⟨b, off + i * 3 + 2, none⟩ = some (.string r.value) := by
      intro i hi
      obtain ⟨cs, hc, ht⟩ := hel i (by omega)
      rw [cells65] at hc
      obtain ⟨_, hlen, hcell⟩ := World.cells?_some hc
      obtain ⟨y0, y1, y2, n', _, _, t0, t1, t2⟩ := trod_struct3 Try.underlying65 ht
      obtain ⟨s0, e0, _, z0⟩ := DataW.trod_string Try.underlying9 t0
      obtain ⟨d1, e1, _⟩ := DataW.trod_bool Try.underlying4 t1
      obtain ⟨s2, e2, _, z2⟩ := DataW.trod_string Try.underlying9 t2
      simp only [cells9, cells4] at e0 e1 e2
      match cs, hlen with
      | [x0, x1, x2], _ =>
        simp at e0 e1 e2
        subst e0 e1 e2
        have q0 := hcell 0 (by omega)
        have q1 := hcell 1 (by omega)
        have q2 := hcell 2 (by omega)
        simp only [Addr.add_lit, Nat.add_zero] at q0 q1 q2
        exact ⟨⟨s0, d1, s2⟩, ⟨z0, z2⟩, q0, q1, q2⟩
    have build : ∀ k, k ≤ len → ∃ ws : List WrL, ws.length = k ∧ SizedAll ws ∧ CellsAt W b off ws := by
      intro k
      induction k with
      | zero => exact fun _ => ⟨[], rfl, fun i hi => absurd hi (by simp), fun i hi => absurd hi (by simp)⟩
      | succ k ih =>
        intro hk
        obtain ⟨ws, hwl, hws, hwc⟩ := ih (by omega)
        obtain ⟨r, hr, hrc⟩ := each k (by omega)
        refine ⟨ws ++ [r], by simp [hwl], ?_, ?_⟩
        · intro i hi
          by_cases h1 : i < ws.length
          · rw [List.getElem_append_left h1]; exact hws i h1
          · have : i = ws.length := by simp at hi; omega
            subst this
            simpa using hr
        · intro i hi
          by_cases h1 : i < ws.length
          · rw [List.getElem_append_left h1]; exact hwc i h1
          · have : i = ws.length := by simp at hi; omega
            subst this
            rw [← hwl] at hrc
            simpa using hrc
    obtain ⟨ws, hwl, hws, hwc⟩ := build len (Nat.le_refl _)
    refine ⟨ws, .inr ⟨b, off, m, by rw [hwl], hwc⟩, hws, .inr ⟨_, _, congrArg Prod.fst hx, ?_⟩⟩
    simp; omega
end

set_option maxRecDepth 100000 in
theorem lifted (os : Os) (started : os.Started) (H : Type) (enc : TypeId × Value → H) :
    ReturnsInHanded {} Try.checked os 5 .any (Rows.encodesSpec.pre6 enc Try.prog Try.f5 Rows.encodesRow.domain false) (Rows.encodesSpec.post enc Try.prog Try.f5 false true false false) := by
  refine returnsInHanded_of_change_sized (C := Try.checked) own started (by kernel_rfl) Try.func5
    (ChangeSpec.witness6 (enc := enc) (C := Try.checked) false ⟨#[], #[.agg #[.int .i64 0, .int .i64 0, .int .i64 0, .slice none 0 0]], []⟩ 8 (by kernel_rfl) (by kernel_rfl) (by kernel_rfl) (by kernel_rfl)) ?_
  intro W base args ds gs before hval0 hW hcnd hsz _
  have hval : ∀ (j : Nat) t v, Try.f5.params[j]? = some t → args[j]? = some v → Value.okWide Try.prog W .any base t v := hval0
  have hW' := hW
  obtain ⟨p, q, hA0, hV, rfl, hfz, hnd⟩ := hW
  have hA : DataW.TrodAll enc Try.prog W 0 (fun _ => true) true Try.f5.params.toList args.toList ds p := hA0
  rw [Try.params5] at hA hval hsz
  obtain ⟨v0, vs0, d0, ds0, p0, q0, hargs, rfl, rfl, h0, r0⟩ := trodAll_cons hA
  obtain ⟨rfl, rfl, rfl⟩ := trodAll_nil r0
  obtain rfl : args = #[v0] := by cases args; simp_all
  obtain ⟨rfl, rfl⟩ := trodVars_none hV
  have k0 := h0
  have lt0 : ∀ x ∈ p0, x.block < W.heap.size := by obtain ⟨m, hm⟩ := k0; exact DataW.trod_lt m _ _ _ hm
  have hv0 := hval 0 32 v0 rfl rfl
  obtain ⟨c0, c1, c2, c3, y0, y1, y2, y3, n, rfl, hd0, hp0, hy0, hy1, hy2, hy3⟩ := open_agg4 Try.underlying32 (by kernel_rfl) cells32 hv0 h0
  obtain ⟨a, e0, _, wa⟩ := DataW.trod_int Try.underlying3 hy0
  obtain ⟨b, e1, _, wb⟩ := DataW.trod_int Try.underlying3 hy1
  obtain ⟨c, e2, _, wc⟩ := DataW.trod_int Try.underlying3 hy2
  simp at e0 e1 e2
  subst e0 e1 e2
  have hcell : Cell.okWide Try.prog W .any base 30 c3 := by
    unfold Value.okWide at hv0
    rw [Try.underlying32] at hv0
    obtain ⟨cs, hcs, _, ts, hts, _, hrow⟩ := hv0
    injection hcs with hcs
    subst hcs
    rw [types32] at hts
    injection hts with hts
    subst hts
    obtain ⟨u, hu, hok⟩ := hrow 3 c3 rfl
    simp at hu
    subst hu
    exact hok
  obtain ⟨ws, hws, hsa, hwl⟩ := open_ws hcell hy3
  have hm : ws.length * 40 ≤ 140737488355328 := by
    rcases hwl with h | ⟨elems, spare, he, hl⟩
    · rw [h]; omega
    · have hmem : (elems.length + spare.length) * 40 ∈ DataW.weights Try.prog 32 d0 := by
        rw [hd0]
        simp [DataW.weights, DataW.weightsEach, Try.underlying32, Try.underlying30, he, bytes65]
      have hle := List.all_eq_true.1 hsz _ (DataW.weights_mem_each (j := 0) (t := 32) (d := d0) rfl rfl _ hmem)
      have hle2 : (elems.length + spare.length) * 40 ≤ reachBytes := by simpa using hle
      have := reachBytes_lt
      omega
  clear hA0 hval0
  refine (Encodes_any a b c c3 ws W hws hsa hm).mono fun e W' ⟨he, bel⟩ => ?_
  subst he
  exact ⟨_, rfl, _, _, _, [], _, [], hW', trodAll_mk1 (shut_bool Try.underlying4 _), (trodAll_cons_mk (Below.trod laidOut (by kernel_rfl) (of_decide_eq_true (by kernel_rfl)) k0 bel lt0) trodAll_mk0), rfl, bel.frame _, fun h => by cases h⟩

theorem over : Rows.encodesRow.holds Try.pinned (OpenSpec.ofChange Rows.encodesSpec) :=
  OpenClaim.holds_of_wide 5 Try.f5 rfl rfl rfl rfl rfl rfl rfl ⟨rfl, rfl, rfl, rfl, rfl⟩ rfl rfl rfl rfl rfl (by kernel_rfl) Try.func5 (by kernel_rfl)
    (of_decide_eq_true (by kernel_rfl)) (by unfold Func.isWrapper; first | (rw [if_pos (by decide +kernel)]; kernel_rfl) | (rw [if_neg (by decide +kernel)]; exact ⟨rfl, rfl⟩))
    (fun os started H enc _ => lifted os started H enc)
end Go.Proofs.Ytneepapppbchnaa.encodes
namespace Go.Proofs.Ytneepapppbchnaa
theorem encodes_holds : Rows.EncodesSaid := encodes.over
end Go.Proofs.Ytneepapppbchnaa
