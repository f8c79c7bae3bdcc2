/- For every script the calls of several disks answer what the document's disks answer (Append, Sync, Cut, Read, Trouble, Crash, NewDisk, in any order, on any of them): the law Disks returns true, whatever its argument is, and leaves it as it was. No condition. -/
import Derived.Test.YtneepapppbchnaaGreatDPlays
import Derived.Test.YtneepapppbchnaaGreatDFacts2
import Derived.ProofKit
import Derived.OpenShut
import Derived.ShutString
import Derived.SizedLaws
import Derived.Lib.SmallJoins
import Derived.Deep.Slices
import Derived.Deep.Strs
import Derived.Conc.Holds
namespace Go.Proofs.YtneepapppbchnaaGreat.disks
open Go.ChangeShapes Go.WideShapes Go.ChangeAt Go.RowKit Go.Joins Go.Deep
open Go.ChangeMaps (open_string shut_string)
set_option linter.unusedVariables false

theorem own : ownKnob Tryz.prog.godebug = none := by kernel_rfl
theorem cells63 : Tryz.prog.cellsOf 63 = 14 := by kernel_rfl
theorem cells3 : Tryz.prog.cellsOf 3 = 1 := by kernel_rfl
theorem cells9 : Tryz.prog.cellsOf 9 = 1 := by kernel_rfl
theorem cells57 : Tryz.prog.cellsOf 57 = 2 := by kernel_rfl
theorem cells60 : Tryz.prog.cellsOf 60 = 4 := by kernel_rfl
theorem cells58 : Tryz.prog.cellsOf 58 = 1 := by kernel_rfl
theorem cells61 : Tryz.prog.cellsOf 61 = 1 := by kernel_rfl
theorem cells37 : Tryz.prog.cellsOf 37 = 1 := by kernel_rfl
theorem bytes63 : Tryz.prog.bytesOf 63 = 176 := by kernel_rfl

section
variable {H : Type} {enc : TypeId × Value → H} {P : Program} {w : World} {base : Nat} {spare : Nat → Bool} {held : Bool}
theorem trod_struct10 {t : TypeId} {f0 f1 f2 f3 f4 f5 f6 f7 f8 f9 : Field} {fuel : Nat} {cs : List Value} {x : DataW H × List MemPlace} (ht : P.underlying t = some (.struct #[f0, f1, f2, f3, f4, f5, f6, f7, f8, f9])) (h : DataW.trod enc P w base spare held fuel t cs = some x) :
    ∃ y0 y1 y2 y3 y4 y5 y6 y7 y8 y9 n, x.1 = .agg [y0.1, y1.1, y2.1, y3.1, y4.1, y5.1, y6.1, y7.1, y8.1, y9.1] ∧ cs.length = P.cellsOf t ∧ DataW.trod enc P w base spare held n f0.type ((cs.drop f0.offset).take (P.cellsOf f0.type)) = some y0 ∧ DataW.trod enc P w base spare held n f1.type ((cs.drop f1.offset).take (P.cellsOf f1.type)) = some y1 ∧ DataW.trod enc P w base spare held n f2.type ((cs.drop f2.offset).take (P.cellsOf f2.type)) = some y2 ∧ DataW.trod enc P w base spare held n f3.type ((cs.drop f3.offset).take (P.cellsOf f3.type)) = some y3 ∧ DataW.trod enc P w base spare held n f4.type ((cs.drop f4.offset).take (P.cellsOf f4.type)) = some y4 ∧ DataW.trod enc P w base spare held n f5.type ((cs.drop f5.offset).take (P.cellsOf f5.type)) = some y5 ∧ DataW.trod enc P w base spare held n f6.type ((cs.drop f6.offset).take (P.cellsOf f6.type)) = some y6 ∧ DataW.trod enc P w base spare held n f7.type ((cs.drop f7.offset).take (P.cellsOf f7.type)) = some y7 ∧ DataW.trod enc P w base spare held n f8.type ((cs.drop f8.offset).take (P.cellsOf f8.type)) = some y8 ∧ DataW.trod enc P w base spare held n f9.type ((cs.drop f9.offset).take (P.cellsOf f9.type)) = some y9 := by
  obtain ⟨xs, n, _, rfl, hl, hlen, hf⟩ := DataW.trod_struct ht h
  match xs, hlen with
  | [y0, y1, y2, y3, y4, y5, y6, y7, y8, y9], _ => exact ⟨y0, y1, y2, y3, y4, y5, y6, y7, y8, y9, n, by simp, hl, by simpa using hf 0 f0 rfl, by simpa using hf 1 f1 rfl, by simpa using hf 2 f2 rfl, by simpa using hf 3 f3 rfl, by simpa using hf 4 f4 rfl, by simpa using hf 5 f5 rfl, by simpa using hf 6 f6 rfl, by simpa using hf 7 f7 rfl, by simpa using hf 8 f8 rfl, by simpa using hf 9 f9 rfl⟩
theorem slice_form {t e : TypeId} {fuel : Nat} {c : Value} {x : DataW H × List MemPlace} (ht : P.underlying t = some (.slice e)) (h : DataW.trod enc P w base spare held fuel t [c] = some x) : ∃ a n cap, c = .slice a n cap := by
  rcases open_slice ht h with ⟨hcs, _⟩ | ⟨a, len, cap, m, k, D, Pl, hcs, _⟩
  · injection hcs with hcs; exact ⟨_, _, _, hcs⟩
  · injection hcs with hcs; exact ⟨_, _, _, hcs⟩
theorem mem_weightsAll {e : TypeId} {d : DataW H} {x : Nat} (hx : x ∈ DataW.weights P e d) : ∀ (l : List (DataW H)), d ∈ l → x ∈ DataW.weightsAll P e l
  | [], h => by cases h
  | y :: l, h => by
    unfold DataW.weightsAll
    rcases List.mem_cons.1 h with rfl | h
    · exact List.mem_append.2 (.inl hx)
    · exact List.mem_append.2 (.inr (mem_weightsAll hx l h))
end
section
variable {H : Type} {enc : TypeId × Value → H} {W : World}
set_option maxRecDepth 100000 in
/-- one step of the script -/
theorem open_op {n g p : Nat} {cs : List Value} {x : DataW H × List MemPlace} (hc : ∀ i (h : i < cs.length), W.cell? ⟨g, p + i, none⟩ = some cs[i]) (ht : DataW.trod enc Tryz.prog W 0 (fun _ => true) true n 63 cs = some x) :
    ∃ o : OpL, OpAt W g p o ∧ o.b < 9223372036854775808 ∧ (-9223372036854775808 ≤ o.on ∧ o.on < 9223372036854775808) ∧ o.s.length ∈ DataW.weights Tryz.prog 63 x.1 := by
  obtain ⟨y0, y1, y2, y3, y4, y5, y6, y7, y8, y9, n', hx, hlen, t0, t1, t2, t3, t4, t5, t6, t7, t8, t9⟩ := trod_struct10 Tryz.underlying63 ht
  rw [cells63] at hlen
  match cs, hlen with
  | [x0, x1, x2, x3, x4, x5, x6, x7, x8, x9, x10, x11, x12, x13], _ =>
    simp only [cells3, cells9, cells57, cells60, cells61, cells37, List.drop_succ_cons, List.drop_zero, List.take_succ_cons, List.take_zero] at t0 t1 t2 t3 t4 t5 t6 t7 t8 t9
    obtain ⟨m0, e0, _, b0⟩ := DataW.trod_int Tryz.underlying3 t0
    obtain ⟨m1, e1, _, b1⟩ := DataW.trod_int Tryz.underlying3 t1
    obtain ⟨m2, e2, _, b2⟩ := DataW.trod_int Tryz.underlying3 t2
    obtain ⟨m3, e3, _, b3⟩ := DataW.trod_int Tryz.underlying3 t3
    obtain ⟨m4, e4, d4, b4⟩ := DataW.trod_string Tryz.underlying9 t4
    obtain ⟨m5, e5, _, b5⟩ := DataW.trod_string Tryz.underlying9 t5
    obtain ⟨u6, u7, n6, _, _, s6, s7⟩ := trod_struct2 Tryz.underlying57 t6
    obtain ⟨u8, u9, u10, u11, n8, _, _, s8, s9, s10, s11⟩ := trod_struct4 Tryz.underlying60 t7
    simp only [cells3, cells58, List.drop_succ_cons, List.drop_zero, List.take_succ_cons, List.take_zero] at s6 s7 s8 s9 s10 s11
    obtain ⟨m6, e6, _, b6⟩ := DataW.trod_int Tryz.underlying3 s6
    obtain ⟨m7, e7, _, b7⟩ := DataW.trod_int Tryz.underlying3 s7
    obtain ⟨m8, e8, _, b8⟩ := DataW.trod_int Tryz.underlying3 s8
    obtain ⟨m9, e9, _, b9⟩ := DataW.trod_int Tryz.underlying3 s9
    obtain ⟨m10, e10, _, b10⟩ := DataW.trod_int Tryz.underlying3 s10
    obtain ⟨a1, n1, c1, e11⟩ := slice_form Tryz.underlying58 s11
    obtain ⟨a2, n2, c2, e12⟩ := slice_form Tryz.underlying61 t8
    obtain ⟨a3, n3, c3, e13⟩ := slice_form Tryz.underlying37 t9
    injection e0 with e0
    injection e1 with e1
    injection e2 with e2
    injection e3 with e3
    injection e4 with e4
    injection e5 with e5
    injection e6 with e6
    injection e7 with e7
    injection e8 with e8
    injection e9 with e9
    injection e10 with e10
    subst e0 e1 e2 e3 e4 e5 e6 e7 e8 e9 e10 e11 e12 e13
    have g1 := bounds_i64 b1
    have g3 := bounds_i64 b3
    refine ⟨⟨m0, m1, m2, m3, m4.data.toList, m5.data.toList, m6, m7, m8, m9, m10, a1, n1, c1, a2, n2, c2, a3, n3, c3⟩, ⟨?_, ?_, ?_, ?_, ?_, ?_, ?_, ?_, ?_, ?_, ?_, ?_, ?_, ?_⟩, by show m3 < _; omega, ⟨by show _ ≤ m1; omega, by show m1 < _; omega⟩, ?_⟩
    · simpa using hc 0 (by simp)
    · simpa using hc 1 (by simp)
    · simpa using hc 2 (by simp)
    · simpa using hc 3 (by simp)
    · rw [← text_self]; simpa using hc 4 (by simp)
    · rw [← text_self]; simpa using hc 5 (by simp)
    · simpa using hc 6 (by simp)
    · simpa using hc 7 (by simp)
    · simpa using hc 8 (by simp)
    · simpa using hc 9 (by simp)
    · simpa using hc 10 (by simp)
    · simpa using hc 11 (by simp)
    · simpa using hc 12 (by simp)
    · simpa using hc 13 (by simp)
    · rw [hx]
      simp [DataW.weights, DataW.weightsEach, Tryz.underlying63, d4]
set_option maxRecDepth 100000 in
theorem open_script {base : Nat} {v : Value} {d : DataW H} {p : List MemPlace} (hv : Value.okWide Tryz.prog W .any base 22 v) (h : DataW.Trod enc Tryz.prog W 0 (fun _ => true) true 22 v d p) :
    ∃ ops, Script W v ops ∧ (∀ i (h : i < ops.length), ops[i].b < 9223372036854775808 ∧ (-9223372036854775808 ≤ ops[i].on ∧ ops[i].on < 9223372036854775808) ∧ ops[i].s.length ∈ DataW.weights Tryz.prog 22 d) ∧ (ops.length = 0 ∨ ∃ elems spare, d = .slice elems spare ∧ ops.length ≤ elems.length + spare.length) := by
  obtain ⟨a, len, cap, rfl⟩ := okWide_slice Tryz.underlying22 hv
  obtain ⟨fuel, h⟩ := h
  rcases open_slice Tryz.underlying22 h with ⟨hcs, _⟩ | ⟨a', len', cap', m, k, D, Pl, hcs, _, hl, hm, hmm, hx, hel⟩
  · have hcs' : Value.slice a len cap = .slice none 0 0 := by simpa [Value.cells] using hcs
    injection hcs' with e1 e2 e3
    subst e1 e2 e3
    exact ⟨[], .inl ⟨rfl, rfl⟩, fun i hi => absurd hi (by simp), .inl rfl⟩
  · have hcs' : Value.slice a len cap = .slice (some a') len' cap' := by simpa [Value.cells] using hcs
    injection hcs' with e1 e2 e3
    subst e1 e2 e3
    have hsp : a'.spot = none := by
      unfold Value.okWide at hv
      rw [Tryz.underlying22] at hv
      unfold Cell.okWide at hv
      rw [Tryz.underlying22] at hv
      unfold Cell.ok at hv
      rw [Tryz.underlying22] at hv
      exact hv.2.2.2.1
    obtain ⟨b, off, sp⟩ := a'
    simp only at hsp
    subst hsp
    have hmc : m = cap := by simpa using hmm
    subst hmc
    have hd : d = .slice ((List.range len).map D) ((List.range (m - len)).map fun j => D (len + j)) := congrArg Prod.fst hx
    have each : ∀ i, i < len → ∃ o : OpL, OpAt W b (off + i * 14) o ∧ (o.b < 9223372036854775808 ∧ (-9223372036854775808 ≤ o.on ∧ o.on < 9223372036854775808) ∧ o.s.length ∈ DataW.weights Tryz.prog 22 d) := by
      intro i hi
      obtain ⟨cs, hc, ht⟩ := hel i (by omega)
      rw [cells63] at hc
      obtain ⟨_, hlen, hcell⟩ := World.cells?_some hc
      obtain ⟨o, h1, h2, h3, h4⟩ := open_op (g := b) (p := off + i * 14) (fun j hj => by
        have := hcell j (by omega)
        rw [List.getElem?_eq_getElem hj] at this
        simpa only [Addr.add_lit] using this) ht
      refine ⟨o, h1, h2, h3, ?_⟩
      rw [hd]
      unfold DataW.weights
      rw [Tryz.underlying22]
      exact List.mem_cons_of_mem _ (List.mem_append.2 (.inl (mem_weightsAll h4 _ (List.mem_map.2 ⟨i, List.mem_range.2 hi, rfl⟩))))
    have build : ∀ k, k ≤ len → ∃ ops : List OpL, ops.length = k ∧ ∀ i (h : i < ops.length), OpAt W b (off + i * 14) ops[i] ∧ (ops[i].b < 9223372036854775808 ∧ (-9223372036854775808 ≤ ops[i].on ∧ ops[i].on < 9223372036854775808) ∧ ops[i].s.length ∈ DataW.weights Tryz.prog 22 d) := by
      intro k
      induction k with
      | zero => exact fun _ => ⟨[], rfl, fun i hi => absurd hi (by simp)⟩
      | succ k ih =>
        intro hk
        obtain ⟨ops, hol, hops⟩ := ih (by omega)
        obtain ⟨o, ho⟩ := each k (by omega)
        refine ⟨ops ++ [o], by simp [hol], fun i hi => ?_⟩
        by_cases h1 : i < ops.length
        · simp only [List.getElem_append_left h1]; exact hops i h1
        · have : i = ops.length := by simp at hi; omega
          subst this
          rw [← hol] at ho
          simpa using ho
    obtain ⟨ops, hol, hops⟩ := build len (Nat.le_refl _)
    exact ⟨ops, .inr ⟨b, off, m, by rw [hol], fun i hi => (hops i hi).1⟩, fun i hi => (hops i hi).2, .inr ⟨_, _, hd, by simp; omega⟩⟩
end

set_option maxRecDepth 100000 in
theorem lifted (os : Os) (started : os.Started) (H : Type) (enc : TypeId × Value → H) :
    ReturnsInHanded {} Tryz.checked os 3 .any (Rows.disksSpec.pre6 enc Tryz.prog Tryz.f3 Rows.disksRow.domain false) (Rows.disksSpec.post enc Tryz.prog Tryz.f3 false true false false) := by
  refine returnsInHanded_of_change_sized (C := Tryz.checked) own started (by kernel_rfl) Tryz.func3
    (ChangeSpec.witness6 (enc := enc) (C := Tryz.checked) false ⟨#[], #[.slice none 0 0], []⟩ 8 (by kernel_rfl) (by kernel_rfl) (by kernel_rfl) (by kernel_rfl)) ?_
  intro W base args ds gs before hval0 hW hcnd hsz _
  have hval : ∀ (j : Nat) t v, Tryz.f3.params[j]? = some t → args[j]? = some v → Value.okWide Tryz.prog W .any base t v := hval0
  have hW' := hW
  obtain ⟨p, q, hA0, hV, rfl, hfz, hnd⟩ := hW
  have hA : DataW.TrodAll enc Tryz.prog W 0 (fun _ => true) true Tryz.f3.params.toList args.toList ds p := hA0
  rw [Tryz.params3] at hA hval hsz
  obtain ⟨v0, vs0, d0, ds0, p0, q0, hargs, rfl, rfl, h0, r0⟩ := trodAll_cons hA
  obtain ⟨rfl, rfl, rfl⟩ := trodAll_nil r0
  obtain rfl : args = #[v0] := by cases args; simp_all
  obtain ⟨rfl, rfl⟩ := trodVars_none hV
  have lt0 : ∀ x ∈ p0, x.block < W.heap.size := by obtain ⟨m, hm⟩ := h0; exact DataW.trod_lt m _ _ _ hm
  obtain ⟨ops, hs, hops, hn⟩ := open_script (hval 0 22 v0 rfl rfl) h0
  have hrb : reachBytes = 140737488351232 := by decide
  have hlen : ops.length ≤ 1000000000000 := by
    rcases hn with h | ⟨elems, spare, he, hl⟩
    · omega
    · have this : (elems.length + spare.length) * Tryz.prog.bytesOf 63 ≤ reachBytes := sized_slice hsz (j := 0) (t := 22) (e := 63) (elems := elems) (spare := spare) rfl (by rw [he]; rfl) Tryz.underlying22
      rw [bytes63, hrb] at this
      omega
  have hsized : ∀ i (h : i < ops.length), ops[i].sized := by
    intro i hi
    obtain ⟨h1, h2, h3⟩ := hops i hi
    have hle := List.all_eq_true.1 hsz _ (DataW.weights_mem_each (j := 0) (t := 22) (d := d0) rfl rfl _ h3)
    have hle2 : ops[i].s.length ≤ reachBytes := by simpa using hle
    rw [hrb] at hle2
    exact ⟨by omega, h1, h2.1, h2.2⟩
  clear hA0 hval0
  refine (Disks_any v0 ops W hs hsized hlen).mono fun e W' ⟨he, bel⟩ => ?_
  subst he
  exact ⟨_, rfl, _, _, _, [], _, [], hW', trodAll_mk1 (shut_bool Tryz.underlying4 _), (trodAll_cons_mk (Below.trod laidOut (by kernel_rfl) (of_decide_eq_true (by kernel_rfl)) h0 bel lt0) trodAll_mk0), rfl, bel.frame _, fun h => by cases h⟩

/-- who is alone at the return leaves nobody behind -/
theorem leaving_of_alone {P : Program} {m : Machine} {w : World} {t : Trace} (h : aloneAtReturn P m w t) : leavingAtReturn P m w t := by
  obtain ⟨⟨h1, h2⟩, h3, h4⟩ := h
  refine ⟨h3, ⟨fun g hg => ⟨0, ?_⟩, h2⟩, h4⟩
  have h5 := List.all_eq_true.1 h1 g hg
  exact eq_of_beq h5
theorem leaving_of_handed {a : Assume} {C : Checked} {os : Os} {f : FuncId} {r : Reach} {Pre : World → Array Value → Prop} {Post : World → Array Value → Value → World → Prop} (h : ReturnsInHanded a C os f r Pre Post) : ReturnsInLeavingWide a C os f r Pre Post := by
  intro enter
  obtain ⟨h1, h2, h3, h4, h5⟩ := h enter
  refine ⟨h1, h2, h3, h4, fun w tape i hi => ?_⟩
  obtain ⟨n, v, w', q1, q2, q3, q4, ⟨j, last, q5, q6, q7⟩, q8⟩ := h5 w tape i hi
  exact ⟨n, v, w', q1, q2, q3, q4, ⟨j, last, q5, q6, leaving_of_alone q7⟩, q8⟩
theorem over : Rows.disksRow.holds Tryz.pinned (OpenSpec.ofChange Rows.disksSpec) :=
  OpenClaim.holds_of_wide_leaving 3 Tryz.f3 rfl rfl rfl rfl rfl rfl rfl ⟨rfl, rfl, rfl, rfl, rfl⟩ rfl rfl rfl rfl rfl named Tryz.func3 closed
    instanced wrapped (fun os started H enc _ => leaving_of_handed (lifted os started H enc))
end Go.Proofs.YtneepapppbchnaaGreat.disks
namespace Go.Proofs.YtneepapppbchnaaGreat
theorem disks_holds : Rows.DisksSaid := disks.over
end Go.Proofs.YtneepapppbchnaaGreat
