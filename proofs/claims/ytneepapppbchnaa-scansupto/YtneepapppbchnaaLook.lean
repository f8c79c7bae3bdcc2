/- The walks of looks. -/
import Derived.Test.YtneepapppbchnaaKeep4
namespace Go.Proofs.Ytneepapppbchnaa
open Go.RowKit
set_option linter.unusedVariables false

theorem row_at {w : World} {e : TypeId} {v : Value} {xs : List Value} (h : w.ownsRow 0 e 1 v xs.length xs) (h0 : 0 < xs.length) : ∃ b cap, v = .slice (some ⟨b, 0, none⟩) xs.length cap ∧ b < w.heap.size ∧ ∀ i (hi : i < xs.length), w.cell? ⟨b, i, none⟩ = some xs[i] := by
  rcases h.2 with ⟨rfl, h2⟩ | ⟨g, cap, cur, rfl, _⟩
  · omega
  · refine ⟨g, cap, rfl, (World.ownsRow.lt h g rfl).2, fun i hi => ?_⟩
    have hc := World.ownsRow.cells h (g := g) rfl i xs[i] (List.getElem?_eq_getElem hi)
    simpa only [Addr.add_lit, Nat.zero_add] using hc
set_option maxHeartbeats 1000000 in
set_option maxRecDepth 100000 in
theorem lookWrites_any (bk : Nat) (vw vr : Value) (W R : List Value) (P : Nat → Prop) (w : World) (hb : BookAt w bk vw vr W R P) (hW : W.length ≤ 1000000000) :
    Calls Try.prog 30 #[.pointer (some ⟨bk, 0, none⟩)] w fun e w' => e = .returned (.bool true) ∧ Below w.heap.size w w' := by
  obtain ⟨va, vc, hvw⟩ := own_form hb.roww
  subst hvw
  have hbk := hb.blt
  go_enter Try.func30, Try.ntmps30
  go_wp2_with fail
  go_loopw [3, 4, 5] (fun i _ _ wr => ∃ k : Nat, k ≤ W.length ∧ i = .int .i64 (k : Int) ∧ Below w.heap.size w wr) (fun i _ _ _ => W.length - (intOf i).toNat)
  case atStart => exact ⟨0, Nat.zero_le _, rfl, Below.refl _ _⟩
  case round =>
    obtain ⟨k, hk, rfl, hbel⟩ := hrel
    have q0 := (hbel.cell hbk).trans hb.cells.1
    by_cases hkl : k < W.length
    · obtain ⟨b, cap, hsl, hbw, hat⟩ := row_at hb.roww (by omega)
      injection hsl with hsa _ hsc
      subst hsa
      clear hsc
      have x0 := (hbel.cell hbw).trans (hat k hkl)
      obtain ⟨n, hn, hf⟩ := hb.fw k hkl
      generalize W[k] = x at *
      have ek : (k : Int) / 4 * 4 = ((k / 4 * 4 : Nat) : Int) := by omega
      have em : k / 4 * 4 ≤ 1000000000 := by omega
      have EK := hide ek
      clear ek hat
      go_wp2_with fail
      rw [EK.out]
      refine (markWrite_any (k / 4 * 4) _ (by omega)).mono ?_
      rintro e w1 ⟨rfl, hb1⟩
      generalize k / 4 * 4 = mm at *
      have hB1 : Below w.heap.size w w1 := hbel.trans (hb1.mono hbel.size)
      obtain ⟨xa, xc, hx, _⟩ := hf.shape
      subst hx
      have hWb : Wb (w1.alloc (.cells #[.string (markT mm), .bool false, .string ⟨#[]⟩] 65)) w1.heap.size (markW mm) := heap_alloc_new w1 _
      have hB2 : Below w.heap.size w (w1.alloc (.cells #[.string (markT mm), .bool false, .string ⟨#[]⟩] 65)) := hB1.alloc hB1.size _
      have HB := hide hb.cells.1
      have HX := hide ((hbel.cell hbw).symm.trans x0)
      have HF := hide hf
      have hn63 : n ≤ 9000000000000000000 := by omega
      have hW63 : (W.length : Int) ≤ 1000000000 := by omega
      clear hb hf x0 q0 hbel em EK
      go_wp2_with fail
      go_loopw [5] (fun j wr => ∃ q : Nat, q ≤ n ∧ j = .int .i64 (q : Int) ∧ Below w.heap.size w wr ∧ Wb wr w1.heap.size (markW mm)) (fun j _ => n - (intOf j).toNat)
      case atStart => exact ⟨0, Nat.zero_le _, rfl, hB2, hWb⟩
      case round =>
        obtain ⟨q, hq, rfl, hbel, hwb⟩ := hrel
        have q0 := (hbel.cell hbk).trans HB.out
        have x0 := (hbel.cell hbw).trans HX.out
        obtain ⟨c0, c1, c2⟩ := hwb.mark
        by_cases hql : q < n
        · rcases HF.out with ⟨_, h0⟩ | ⟨xb, xcap, hxe, hxb, hc⟩
          · omega
          injection hxe with hxa _ hxc
          subst hxa
          clear hxc
          have hcq := hc q (by rw [List.length_replicate]; exact hql)
          simp only [List.getElem_replicate, Nat.zero_add] at hcq
          obtain ⟨y0, y1, y2⟩ := hcq
          replace y0 : wr.cell? ⟨xb, q * 3, none⟩ = some (.string (markT mm)) := (hbel.cell hxb).trans y0
          replace y1 : wr.cell? ⟨xb, q * 3 + 1, none⟩ = some (.bool false) := (hbel.cell hxb).trans y1
          replace y2 : wr.cell? ⟨xb, q * 3 + 2, none⟩ = some (.string ⟨#[]⟩) := (hbel.cell hxb).trans y2
          have HBL := hide hbel
          have HWB := hide hwb
          clear hc hbel hwb hWb hB2 hB1 hb1
          go_wp2_with fail
          go_quiet (fail)
          go_wp2_with fail
          go_roundw
          case rel => exact ⟨q + 1, by omega, by go_num, below_drewN HBL.out nq, HWB.out⟩
          case measure => simp [intOf]; omega
        · go_wp2_with fail
          go_roundw
          case rel => exact ⟨k + 1, by omega, by go_num, hbel⟩
          case measure => simp [intOf]; omega
    · go_wp2_with fail
      go_ret
      exact ⟨rfl, hbel⟩
set_option maxHeartbeats 400000 in
theorem lookFound_any (bk : Nat) (w : World) (h : w.cell? ⟨bk, 1, none⟩ = some (.slice none 0 0)) :
    Calls Try.prog 31 #[.pointer (some ⟨bk, 0, none⟩)] w fun e w' => e = .returned (.bool true) ∧ Below w.heap.size w w' := by
  go_enter Try.func31, Try.ntmps31
  go_wp2_with fail
  go_loopw [3, 4, 5] (fun i _ _ wr => i = .int .i64 0 ∧ wr = w) (fun _ _ _ _ => 0)
  case atStart => exact ⟨rfl, rfl⟩
  case round =>
    obtain ⟨rfl, rfl⟩ := hrel
    go_wp2_with fail
    go_ret
    exact ⟨rfl, Below.refl _ _⟩
set_option maxHeartbeats 400000 in
theorem lookPairs_any (bk : Nat) (w : World) (h : w.cell? ⟨bk, 2, none⟩ = some (.slice none 0 0)) :
    Calls Try.prog 32 #[.pointer (some ⟨bk, 0, none⟩)] w fun e w' => e = .returned (.bool true) ∧ Below w.heap.size w w' := by
  go_enter Try.func32, Try.ntmps32
  go_wp2_with fail
  go_loopw [3, 4, 5] (fun i _ _ wr => i = .int .i64 0 ∧ wr = w) (fun _ _ _ _ => 0)
  case atStart => exact ⟨rfl, rfl⟩
  case round =>
    obtain ⟨rfl, rfl⟩ := hrel
    go_wp2_with fail
    go_ret
    exact ⟨rfl, Below.refl _ _⟩
set_option maxHeartbeats 1000000 in
set_option maxRecDepth 100000 in
theorem lookRecords_any (bk : Nat) (vw vr : Value) (W R : List Value) (P : Nat → Prop) (w : World) (hb : BookAt w bk vw vr W R P) (hR : R.length ≤ 1000000000) :
    Calls Try.prog 33 #[.pointer (some ⟨bk, 0, none⟩)] w fun e w' => e = .returned (.bool true) ∧ Below w.heap.size w w' := by
  obtain ⟨va, vc, hvr⟩ := own_form hb.rowr
  subst hvr
  have q0 := hb.cells.2.2.2
  go_enter Try.func33, Try.ntmps33
  go_wp2_with fail
  go_loopw [3, 4] (fun i _ wr => ∃ k : Nat, k ≤ R.length ∧ i = .int .i64 (k : Int) ∧ wr = w) (fun i _ _ => R.length - (intOf i).toNat)
  case atStart => exact ⟨0, Nat.zero_le _, rfl, rfl⟩
  case round =>
    obtain ⟨k, hk, rfl, rfl⟩ := hrel
    by_cases hkl : k < R.length
    · obtain ⟨b, cap, hsl, hbw, hat⟩ := row_at hb.rowr (by omega)
      injection hsl with hsa _ hsc
      subst hsa
      clear hsc
      have x0 := hat k hkl
      obtain ⟨n, hn, hf⟩ := hb.fr k hkl
      generalize R[k] = x at *
      have ek : (-1000 - ((k / 4 : Nat) : Int)) = -1000 - (k : Int) / 4 := by omega
      rw [ek] at hf
      obtain ⟨xa, xc, hx, _⟩ := hf.shape
      subst hx
      have HF := hide hf
      clear ek hat hf hb
      go_wp2_with fail
      go_loopw [4] (fun j wx => ∃ q : Nat, q ≤ n ∧ j = .int .i64 (q : Int) ∧ wx = wr) (fun j _ => n - (intOf j).toNat)
      case atStart => exact ⟨0, Nat.zero_le _, rfl, rfl⟩
      case round =>
        obtain ⟨q, hq, rfl, rfl⟩ := hrel
        by_cases hql : q < n
        · rcases HF.out with ⟨_, h0⟩ | ⟨xb, xcap, hxe, hxb, hc⟩
          · omega
          injection hxe with hxa _ hxc
          subst hxa
          clear hxc
          obtain ⟨y0, y3⟩ := hc q hql
          clear hc
          go_wp2_with fail
          go_roundw
          case rel => exact ⟨q + 1, by omega, by go_num, trivial⟩
          case measure => simp [intOf]; omega
        · go_wp2_with fail
          go_roundw
          case rel => exact ⟨k + 1, by omega, by go_num, trivial⟩
          case measure => simp [intOf]; omega
    · go_wp2_with fail
      go_ret
      exact ⟨rfl, Below.refl _ _⟩
theorem BookAt.below {w w' : World} {bk : Nat} {vw vr : Value} {W R : List Value} {P : Nat → Prop} (h : BookAt w bk vw vr W R P) (hb : Below w.heap.size w w') : BookAt w' bk vw vr W R P := h.kept (Only.of_below (S := fun _ => False) hb) (fun _ hf => hf.elim)
set_option maxHeartbeats 400000 in
theorem looks_any (bk : Nat) (vw vr : Value) (W R : List Value) (P : Nat → Prop) (w : World) (hb : BookAt w bk vw vr W R P) (hW : W.length ≤ 1000000000) (hR : R.length ≤ 1000000000) :
    Calls Try.prog 14 #[.pointer (some ⟨bk, 0, none⟩)] w fun e w' => e = .returned (.bool true) ∧ Below w.heap.size w w' := by
  go_enter Try.func14, Try.ntmps14
  go_wp2_with fail
  refine (lookWrites_any bk vw vr W R P w hb hW).mono ?_
  rintro e w1 ⟨rfl, h1⟩
  have hb1 := hb.below h1
  go_wp2_with fail
  refine (lookFound_any bk w1 hb1.cells.2.1).mono ?_
  rintro e w2 ⟨rfl, h2⟩
  have hb2 := hb1.below h2
  go_wp2_with fail
  refine (lookPairs_any bk w2 hb2.cells.2.2.1).mono ?_
  rintro e w3 ⟨rfl, h3⟩
  have hb3 := hb2.below h3
  go_wp2_with fail
  refine (lookRecords_any bk vw vr W R P w3 hb3 hR).mono ?_
  rintro e w4 ⟨rfl, h4⟩
  go_wp2_with fail
  go_ret
  refine ⟨rfl, ?_⟩
  have a2 := h1.trans (h2.mono h1.size)
  have a3 := a2.trans (h3.mono a2.size)
  exact a3.trans (h4.mono a3.size)
end Go.Proofs.Ytneepapppbchnaa
