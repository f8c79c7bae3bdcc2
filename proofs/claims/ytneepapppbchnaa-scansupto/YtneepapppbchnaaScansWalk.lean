/- The walk of Scans. -/
import Derived.Test.YtneepapppbchnaaLook
namespace Go.Proofs.Ytneepapppbchnaa
open Go.RowKit
set_option linter.unusedVariables false

theorem BookAt.tight {w : World} {bk : Nat} {vw vr : Value} {W R : List Value} {P : Nat → Prop} (h : BookAt w bk vw vr W R P) : BookAt w bk vw vr W R (fun x => P x ∧ x < w.heap.size) := by
  have g := h.toG
  exact ⟨g.box, g.roww, by simpa using g.rowr, g.pb, g.pw, g.pr, g.each, g.fw, g.fr⟩
/-- a record that was read has few writes -/
theorem recAt_few {l : List UInt8} (h : fB l = true) : (recAt l).writes.length ≤ 1000 := by
  unfold fB at h
  simp only [Bool.and_eq_true, decide_eq_true_eq] at h
  obtain ⟨kn, tn, gn, e1, e2, e3, h1, h6, ht, hg, hw, hn⟩ := rec_nat h.1.2
  show (gW (fK l) (fP l)).length ≤ 1000
  by_cases hk : kn = 1 ∨ kn = 2 ∨ kn = 5
  · have := (hw hk).2.1; omega
  · have := hn (by omega); omega
theorem recs_few {n : Nat} {l : List UInt8} (h : okN n l) : ∀ r ∈ recs n l, r.writes.length ≤ 1000 := by
  intro r hr
  unfold recs at hr
  obtain ⟨i, hi, rfl⟩ := List.mem_map.1 hr
  exact recAt_few (h i (List.mem_range.1 hi))
set_option maxHeartbeats 1000000 in
theorem scans_any (bk : Nat) (vw vr : Value) (W R : List Value) (P : Nat → Prop) (l : List UInt8) (w : World) (hb : BookAt w bk vw vr W R P) (hl : l.length ≤ 1100000) (h4 : W.length % 4 = 0) (h4r : R.length % 4 = 0) (hW : W.length ≤ 10000000) (hRl : R.length ≤ 100) :
    Calls Try.prog 13 #[.pointer (some ⟨bk, 0, none⟩), .string (textOf l)] w fun e w' => e = .returned (.bool true) ∧ ∃ vw' vr' W' R', BookAt w' bk vw' vr' W' R' (fun x => P x ∨ w.heap.size ≤ x) ∧ W'.length % 4 = 0 ∧ W'.length ≤ W.length + 700000 ∧ R'.length = R.length + 4 ∧ Only (fun x => P x ∨ w.heap.size ≤ x) w w' := by
  have hcnt : ∀ n, okN n l → n ≤ 160000 := fun n h => by have := taken_le n l h; omega
  have HC := hide hcnt
  clear hcnt
  go_enter Try.func13, Try.ntmps13
  go_wp2_with fail
  refine (pScan_any l _ (by omega) (fun n h => Nat.le_trans (HC.out n h) (by decide))).mono ?_
  rintro e w1 ⟨n, v, rs, k1, k2, rfl, k3, k4, k5⟩
  obtain ⟨va, vc, hv⟩ := own_form k4.row
  subst hv
  have K1 := hide k1
  have K2 := hide k2
  have K3 := hide k3
  have htl := taken_le n l k1
  generalize htk : taken n l = tk at *
  have HTK := hide htk
  clear k1 k2 k3 htk
  go_wp2_with fail
  refine (rScan_any l _ (by omega) (fun n h => Nat.le_trans (HC.out n h) (by decide))).mono ?_
  rintro e w2 ⟨n', v', rs', k1', k2', rfl, k3', k4', k5'⟩
  have hnn : n' = n := okN_unique k1' k2' K1.out (by rw [HTK.out]; exact K2.out)
  subst hnn
  rw [HTK.out]
  obtain ⟨va', vc', hv'⟩ := own_form k4'.row
  subst hv'
  have hlen : rs.length = n' := by have := congrArg List.length K3.out; rwa [List.length_map, recs_length] at this
  have hn9 := HC.out n' k1'
  have he : rs.map (·.1) = rs'.map (·.1) := K3.out.trans k3'.symm
  have hfew : ∀ p ∈ rs, p.1.writes.length ≤ 1000 := fun p hp => recs_few k1' p.1 (by rw [← K3.out]; exact List.mem_map.2 ⟨p, hp, rfl⟩)
  have k42 : Recs w.heap.size w2 (.slice va rs.length vc) rs := k4.kept fun x hx => k5'.block x (k4.lt x hx)
  have hS := sameRecords_any rs rs' _ _ w2 k42 k4' he (by omega) hfew
  have HL := hide hlen
  have HFEW := hide hfew
  clear k1' k2' k3' he hlen hfew
  go_wp2_with fail
  refine hS.mono ?_
  rintro e w3 ⟨rfl, hb3⟩
  have k43 : Recs w.heap.size w3 (.slice va rs.length vc) rs := k42.kept fun x hx => hb3.block x (k42.lt x hx)
  have hB2 : Below w.heap.size w w2 := k5.trans (k5'.mono k5.size)
  have hB3 : Below w.heap.size w w3 := hB2.trans (hb3.mono hB2.size)
  have hbk3 := hb.tight.below hB3
  have hrs : rs.length ≤ 160000 := by rw [HL.out]; exact hn9
  have hKR := keepRecords_any bk w.heap.size vw vr _ W R _ rs w3 hbk3 k43 (fun x hx hp => by have := k43.fresh x hx; have := hp.2; omega) h4 h4r (by omega) (by omega) (by omega) HFEW.out
  have HFR := hide k43.fresh
  clear hS k42 k43 k4 k4' hbk3
  go_wp2_with fail
  refine hKR.mono ?_
  rintro e w4 ⟨rfl, vw', vr', W', R', hB4, hW4, hR4, ho4⟩
  have HB4 := hide hB4
  have HO4 := hide ho4
  have HW4 := hide hW4
  have HR4 := hide hR4
  have hfr := HFR.out
  clear hB4 ho4 hKR
  go_wp2_with fail
  go_ret
  refine ⟨rfl, vw', vr', W', R', HB4.out.mono ?_, by omega, by omega, hR4, ?_⟩
  · rintro x (q | q | q)
    · exact .inl q.1
    · exact .inr (hfr x q)
    · exact .inr (Nat.le_trans hB3.size q)
  · refine (Only.of_below hB3).trans HO4.out ?_
    rintro x hx (q | q | q)
    · exact .inl q.1
    · exact .inr (hfr x q)
    · exact .inr (Nat.le_trans hB3.size q)
set_option maxHeartbeats 1000000 in
theorem Scans_any (l l2 : List UInt8) (w : World) (hl : l.length ≤ 1100000) (hl2 : l2.length ≤ 1100000) :
    Calls Try.prog 6 #[.string (textOf l), .string (textOf l2)] w fun e w' => e = .returned (.bool true) ∧ Below w.heap.size w w' := by
  have hb0 : BookAt (w.alloc (.cells #[.slice none 0 0, .slice none 0 0, .slice none 0 0, .slice none 0 0] 40)) w.heap.size (.slice none 0 0) (.slice none 0 0) [] [] (fun x => w.heap.size ≤ x) :=
    ⟨heap_alloc_new w _, World.ownsRow_nil _ 0 _ 1, World.ownsRow_nil _ 0 _ 1, Nat.le_refl _, fun x hx => (by cases hx), fun x hx => (by cases hx), fun v hv => absurd hv (by simp), fun i hi => absurd hi (by simp), fun i hi => absurd hi (by simp)⟩
  have hB0 := box_below w (.cells #[.slice none 0 0, .slice none 0 0, .slice none 0 0, .slice none 0 0] 40)
  have hs0 : w.heap.size ≤ (w.alloc (.cells #[.slice none 0 0, .slice none 0 0, .slice none 0 0, .slice none 0 0] 40)).heap.size := by simp
  have up : ∀ wx : World, w.heap.size ≤ wx.heap.size → ∀ x, (w.heap.size ≤ x ∨ wx.heap.size ≤ x) → w.heap.size ≤ x := by
    rintro wx hs x (q | q)
    · exact q
    · omega
  have UP := hide up
  clear up
  go_enter Try.func6, Try.ntmps6
  go_wp2_with fail
  generalize w.alloc (.cells #[.slice none 0 0, .slice none 0 0, .slice none 0 0, .slice none 0 0] 40) = w0 at *
  refine (scans_any _ _ _ _ _ _ l w0 hb0 hl rfl rfl (by simp) (by simp)).mono ?_
  rintro e w1 ⟨rfl, vw1, vr1, W1, R1, hb1, m1, n1, r1, o1⟩
  have hB1 : Below w.heap.size w w1 := hB0.trans (o1.below hs0 (UP.out _ hs0))
  have hb1' := hb1.mono (UP.out _ hs0)
  have hs1 : w.heap.size ≤ w1.heap.size := hB1.size
  simp only [List.length_nil, Nat.zero_add] at n1 r1
  have M1 := hide m1
  have R1' := hide r1
  clear hb1 o1 hb0 hB0 m1 r1
  go_wp2_with fail
  refine (scans_any _ _ _ _ _ _ l2 w1 hb1' hl2 M1.out (by rw [R1'.out]) (by omega) (by rw [R1'.out]; decide)).mono ?_
  rintro e w2 ⟨rfl, vw2, vr2, W2, R2, hb2, m2, n2, r2, o2⟩
  have hB2 : Below w.heap.size w w2 := hB1.trans (o2.below hs1 (UP.out _ hs1))
  have hb2' := hb2.mono (UP.out _ hs1)
  have hs2 : w.heap.size ≤ w2.heap.size := hB2.size
  rw [R1'.out] at r2
  have M2 := hide m2
  have R2' := hide r2
  clear hb2 o2 hb1' hB1 m2 r2
  go_wp2_with fail
  refine (scans_any _ _ _ _ _ _ l w2 hb2' hl M2.out (by rw [R2'.out]) (by omega) (by rw [R2'.out]; decide)).mono ?_
  rintro e w3 ⟨rfl, vw3, vr3, W3, R3, hb3, m3, n3, r3, o3⟩
  have hB3 : Below w.heap.size w w3 := hB2.trans (o3.below hs2 (UP.out _ hs2))
  rw [R2'.out] at r3
  have R3' := hide r3
  clear o3 hb2' hB2 m3 r3
  go_wp2_with fail
  refine (looks_any _ _ _ _ _ _ w3 hb3 (by omega) (by rw [R3'.out]; decide)).mono ?_
  rintro e w4 ⟨rfl, hB4⟩
  go_wp2_with fail
  go_ret
  exact ⟨rfl, hB3.trans (hB4.mono hB3.size)⟩
end Go.Proofs.Ytneepapppbchnaa
