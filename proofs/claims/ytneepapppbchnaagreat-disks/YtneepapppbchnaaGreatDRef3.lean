/- The disk of the document's answer: the walks of Append and Cut on a file that there is. -/
import Derived.Test.YtneepapppbchnaaGreatDRef2
namespace Go.Proofs.YtneepapppbchnaaGreat
open Go.RowKit
set_option linter.unusedVariables false

theorem fine_sizes {m : Fm} (hm : m.fine) : (textOf m.lasts).size + (textOf m.late).size = m.bytes.length := by
  unfold Fm.bytes
  rw [List.length_append]
  rfl
set_option maxRecDepth 100000 in
theorem rAppend_in (r k : Nat) (s : List UInt8) (fs : Nat → Fm) (us st : Int) (w : World) (h : RD w r fs us st) (hk : k < 7) (hm : (fs k).fine) (hs : s.length ≤ 140737488355328) :
    Calls Tryz.prog 78 #[.pointer (some ⟨r, 0, none⟩), .int .i64 (k : Int), .string (textOf s)] w fun e w' => e = .returned (.int .i64 (appF (fs k) s).1) ∧ RD w' r (upd fs k (appF (fs k) s).2) us st ∧ Only (fun x => x = r) w w' := by
  have hk0 : (0 : Int) ≤ (k : Int) := by omega
  have hk7 : (k : Int) < 7 := by omega
  by_cases h0 : (fs k).fails
  · have hz : appF (fs k) s = (3, (fs k).tick) := if_pos h0
    rw [hz]
    dsimp only
    clear hz
    go_enter Tryz.func78, Tryz.ntmps78
    go_wp2_with fail
    refine (rturn_in r k fs us st _ h hk hm.2.1 hm.2.2).mono ?_
    rintro e w1 ⟨rfl, h1, o1⟩
    rw [failE_pos h0]
    have H1 := hide h1
    have O1 := hide o1
    clear h1 o1 h
    go_wp2_with fail
    go_ret
    exact ⟨rfl, H1.out, O1.out⟩
  · have hs0 := fine_sizes hm
    have hs1 := textOf_size s
    have hb := hm.1
    by_cases hf : 2000 < (fs k).bytes.length + s.length
    · have hz : appF (fs k) s = (4, (fs k).tick) := (if_neg h0).trans (if_pos hf)
      rw [hz]
      dsimp only
      clear hz
      have hgt : ¬ ((textOf (fs k).tick.lasts).size : Int) + ((textOf (fs k).tick.late).size : Int) + ((textOf s).size : Int) ≤ 2000 := by
        show ¬ ((textOf (fs k).lasts).size : Int) + ((textOf (fs k).late).size : Int) + ((textOf s).size : Int) ≤ 2000
        omega
      have hb1 : (textOf (fs k).tick.lasts).size ≤ 2000 := by show (textOf (fs k).lasts).size ≤ 2000; omega
      have hb2 : (textOf (fs k).tick.late).size ≤ 2000 := by show (textOf (fs k).late).size ≤ 2000; omega
      have hb3 : (textOf s).size ≤ 140737488355328 := by omega
      go_enter Tryz.func78, Tryz.ntmps78
      go_wp2_with fail
      refine (rturn_in r k fs us st _ h hk hm.2.1 hm.2.2).mono ?_
      rintro e w1 ⟨rfl, h1, o1⟩
      rw [failE_neg h0]
      have c0 := h1.c0 hk
      have c1 := h1.c1 hk
      rw [upd_at] at c0 c1
      have H1 := hide h1
      have O1 := hide o1
      clear h1 o1 h hs0 hs1
      generalize textOf (fs k).tick.lasts = la at *
      generalize textOf (fs k).tick.late = lt at *
      generalize textOf s = sb at *
      go_wp2_with fail
      go_quiet (fail)
      go_wp2_with fail
      go_ret
      exact ⟨rfl, H1.out.like ((Like.refl _).drewN _), O1.out.then (((Like.refl _).drewN _).only _)⟩
    · have hz : appF (fs k) s = (0, { (fs k).tick with late := (fs k).late ++ s }) := (if_neg h0).trans (if_neg hf)
      rw [hz]
      dsimp only
      clear hz
      have hgt : ((textOf (fs k).tick.lasts).size : Int) + ((textOf (fs k).tick.late).size : Int) + ((textOf s).size : Int) ≤ 2000 := by
        show ((textOf (fs k).lasts).size : Int) + ((textOf (fs k).late).size : Int) + ((textOf s).size : Int) ≤ 2000
        omega
      have hb1 : (textOf (fs k).tick.lasts).size ≤ 2000 := by show (textOf (fs k).lasts).size ≤ 2000; omega
      have hb2 : (textOf (fs k).tick.late).size ≤ 2000 := by show (textOf (fs k).late).size ≤ 2000; omega
      have hb3 : (textOf s).size ≤ 2000 := by omega
      have hb4 : ¬ 9223372036854775807 < (textOf (fs k).tick.late).size + (textOf s).size := by omega
      go_enter Tryz.func78, Tryz.ntmps78
      go_wp2_with fail
      refine (rturn_in r k fs us st _ h hk hm.2.1 hm.2.2).mono ?_
      rintro e w1 ⟨rfl, h1, o1⟩
      rw [failE_neg h0]
      have c0 := h1.c0 hk
      have c1 := h1.c1 hk
      have f1 := h1.fz (k * 4 + 1)
      rw [upd_at] at c0 c1
      have HP : Hid (∀ w2, Like w1 w2 → RD (w2.setCell ⟨r, k * 4 + 1, none⟩ (.string (textOf (fs k).tick.late ++ textOf s))) r (upd fs k { (fs k).tick with late := (fs k).late ++ s }) us st) := by
        intro w2 hl
        have h2 := (h1.like hl).put hk (i := 1) (by omega) (.string (textOf (fs k).tick.late ++ textOf s)) { (fs k).tick with late := (fs k).late ++ s } (by rw [textOf_append]; rfl) (fun j hj hj2 => by
          rw [upd_at]
          match j, hj with
          | 0, _ => rfl
          | 1, _ => exact absurd rfl hj2
          | 2, _ => rfl
          | 3, _ => rfl)
        rw [upd_upd] at h2
        exact h2
      have O1 := hide o1
      clear h1 o1 h hs0 hs1
      generalize textOf (fs k).tick.lasts = la at *
      generalize textOf (fs k).tick.late = lt at *
      generalize textOf s = sb at *
      go_wp2_with fail
      go_quiet (fail)
      go_wp2_with fail
      obtain ⟨w2, hw2⟩ : ∃ w2, w2 = w1.drewN nq := ⟨_, rfl⟩
      have hl2 : Like w1 w2 := by rw [hw2]; exact (Like.refl _).drewN _
      rw [← hw2]
      have c1' := (hl2.cell _).trans c1
      have f1' := (hl2.frozen _).trans f1
      have HL := hide hl2
      clear hw2 hl2 c0 c1 f1
      go_region
      go_wp2_with fail
      go_ret
      exact ⟨rfl, (HP.out w2 HL.out).like (Like.refl _).drew, (O1.out.then (HL.out.only _)).then (only_set _ _ _ _).drew⟩
theorem text_take (l : List UInt8) (k : Nat) : (textOf l).extract 0 k = textOf (l.take k) := text_cut l k
set_option maxRecDepth 100000 in
theorem rCut_in (r k : Nat) (n : Int) (fs : Nat → Fm) (us st : Int) (w : World) (h : RD w r fs us st) (hk : k < 7) (hm : (fs k).fine) :
    Calls Tryz.prog 81 #[.pointer (some ⟨r, 0, none⟩), .int .i64 (k : Int), .int .i64 n] w fun e w' => e = .returned (.int .i64 (cutF (fs k) n).1) ∧ RD w' r (upd fs k (cutF (fs k) n).2) us st ∧ Only (fun x => x = r) w w' := by
  have hk0 : (0 : Int) ≤ (k : Int) := by omega
  have hk7 : (k : Int) < 7 := by omega
  by_cases h0 : (fs k).fails
  · have hz : cutF (fs k) n = (3, (fs k).tick) := if_pos h0
    rw [hz]
    dsimp only
    clear hz
    go_enter Tryz.func81, Tryz.ntmps81
    go_wp2_with fail
    refine (rturn_in r k fs us st _ h hk hm.2.1 hm.2.2).mono ?_
    rintro e w1 ⟨rfl, h1, o1⟩
    rw [failE_pos h0]
    have H1 := hide h1
    have O1 := hide o1
    clear h1 o1 h
    go_wp2_with fail
    go_ret
    exact ⟨rfl, H1.out, O1.out⟩
  · have hs0 := fine_sizes hm
    have hb := hm.1
    have hb1 : (textOf (fs k).tick.lasts).size ≤ 2000 := by show (textOf (fs k).lasts).size ≤ 2000; omega
    have hb2 : (textOf (fs k).tick.late).size ≤ 2000 := by show (textOf (fs k).late).size ≤ 2000; omega
    by_cases hf : n < 0 ∨ ((fs k).bytes.length : Int) < n
    · have hz : cutF (fs k) n = (1, (fs k).tick) := (if_neg h0).trans (if_pos hf)
      rw [hz]
      dsimp only
      clear hz
      have hlt : n < 0 ∨ ¬ n ≤ ((textOf (fs k).tick.lasts).size : Int) + ((textOf (fs k).tick.late).size : Int) := by
        show n < 0 ∨ ¬ n ≤ ((textOf (fs k).lasts).size : Int) + ((textOf (fs k).late).size : Int)
        omega
      have HLT := hide hlt
      go_enter Tryz.func81, Tryz.ntmps81
      go_wp2_with fail
      refine (rturn_in r k fs us st _ h hk hm.2.1 hm.2.2).mono ?_
      rintro e w1 ⟨rfl, h1, o1⟩
      rw [failE_neg h0]
      have c0 := h1.c0 hk
      have c1 := h1.c1 hk
      rw [upd_at] at c0 c1
      have H1 := hide h1
      have O1 := hide o1
      clear h1 o1 h hs0 hlt hf
      generalize textOf (fs k).tick.lasts = la at *
      generalize textOf (fs k).tick.late = lt at *
      go_wp2_with fail
      by_cases hn : n < 0
      · have hd : decide (n < 0) = true := decide_eq_true hn
        go_quiet (fail)
        go_wp2_with fail
        go_ret
        exact ⟨rfl, H1.out.like ((Like.refl _).drewN _), O1.out.then (((Like.refl _).drewN _).only _)⟩
      · have hd : decide (n < 0) = false := decide_eq_false hn
        have hg : ¬ n ≤ (la.size : Int) + (lt.size : Int) := by
          rcases HLT.out with q | q
          · exact absurd q hn
          · omega
        go_quiet (fail)
        go_wp2_with fail
        go_ret
        exact ⟨rfl, H1.out.like ((Like.refl _).drewN _), O1.out.then (((Like.refl _).drewN _).only _)⟩
    · obtain ⟨j, rfl⟩ : ∃ j : Nat, n = (j : Int) := ⟨n.toNat, by omega⟩
      have hj : j ≤ (fs k).bytes.length := by omega
      have hz : cutF (fs k) (j : Int) = (0, { (fs k).tick with lasts := (fs k).bytes.take j, late := [] }) := (if_neg h0).trans (if_neg hf)
      rw [hz]
      dsimp only
      clear hz
      have hle : (j : Int) ≤ ((textOf (fs k).tick.lasts).size : Int) + ((textOf (fs k).tick.late).size : Int) := by
        show (j : Int) ≤ ((textOf (fs k).lasts).size : Int) + ((textOf (fs k).late).size : Int)
        omega
      have hd : decide ((j : Int) < 0) = false := decide_eq_false (by omega)
      go_enter Tryz.func81, Tryz.ntmps81
      go_wp2_with fail
      refine (rturn_in r k fs us st _ h hk hm.2.1 hm.2.2).mono ?_
      rintro e w1 ⟨rfl, h1, o1⟩
      rw [failE_neg h0]
      have c0 := h1.c0 hk
      have c1 := h1.c1 hk
      rw [upd_at] at c0 c1
      have H1 := hide h1
      have O1 := hide o1
      clear h1 o1 h hs0 hf
      generalize textOf (fs k).tick.lasts = la at *
      generalize textOf (fs k).tick.late = lt at *
      go_wp2_with fail
      go_quiet (fail)
      go_wp2_with fail
      have h2 := H1.out.like ((Like.refl w1).drewN nq)
      have o2 := O1.out.then (((Like.refl w1).drewN nq).only _)
      generalize w1.drewN nq = w2 at *
      refine (rall_in r k _ us st _ h2 hk (by rw [upd_at]; exact hm.1)).mono ?_
      rintro e w3 ⟨rfl, h3, o3⟩
      rw [upd_upd, upd_at] at h3
      have c0' := h3.c0 hk
      have f0' := h3.fz (k * 4)
      rw [upd_at] at c0'
      have HP : Hid (∀ w4, Like w3 w4 → RD (w4.setCell ⟨r, k * 4, none⟩ (.string ((textOf (fs k).tick.all.lasts).extract 0 j))) r (upd fs k { (fs k).tick with lasts := (fs k).bytes.take j, late := [] }) us st) := by
        intro w4 hl
        have h4 := (h3.like hl).put hk (i := 0) (by omega) (.string ((textOf (fs k).tick.all.lasts).extract 0 j)) { (fs k).tick with lasts := (fs k).bytes.take j, late := [] } (by rw [text_cut]; rfl) (fun j hj hj2 => by
          rw [upd_at]
          match j, hj with
          | 0, _ => exact absurd rfl hj2
          | 1, _ => rfl
          | 2, _ => rfl
          | 3, _ => rfl)
        rw [upd_upd] at h4
        exact h4
      have hjs : (j : Int) ≤ ((textOf (fs k).tick.all.lasts).size : Int) := by
        have e : (textOf (fs k).tick.all.lasts).size = (fs k).bytes.length := rfl
        rw [e]; omega
      have O3 := hide (o2.then o3)
      clear h2 o2 h3 o3 H1 O1 c0 c1
      generalize textOf (fs k).tick.all.lasts = ls at *
      go_wp2_with fail
      go_region
      go_wp2_with fail
      go_ret
      exact ⟨rfl, (HP.out w3 (Like.refl _)).like (Like.refl _).drew, O3.out.then (only_set _ _ _ _).drew⟩
end Go.Proofs.YtneepapppbchnaaGreat
