/- The program's disk: its calls, and the walk of Crash. -/
import Derived.Test.YtneepapppbchnaaGreatDDisk2
namespace Go.Proofs.YtneepapppbchnaaGreat
open Go.RowKit
set_option linter.unusedVariables false
variable {tk : Nat}

theorem pAppend_in (b k : Nat) (s : List UInt8) (vs : Nat → Value) (fs : Nat → Fm) (P : Nat → Prop) (w : World) (h : PD tk w b vs fs P) (hk : k < 7) (hm : (fs k).fine) (hs : s.length ≤ 140737488355328) :
    Calls Tryz.prog 31 #[.pointer (some ⟨b, 0, none⟩), .int .i64 (k : Int), .string (textOf s)] w fun e w' => e = .returned (.int .i64 (appF (fs k) s).1) ∧ PX tk w w' b (upd fs k (appF (fs k) s).2) P := by
  go_enter Tryz.func31, Tryz.ntmps31
  go_wp2_with fail
  refine (files_any b _).mono ?_
  rintro e w1 ⟨rfl, rfl⟩
  go_wp2_with fail
  refine (dAppend_in b k s vs fs P _ h hk hm hs).mono ?_
  rintro e w2 ⟨rfl, hx⟩
  have HX := hide hx
  clear hx h
  go_wp2_with fail
  go_ret
  exact ⟨rfl, HX.out⟩
theorem pSync_in (b k : Nat) (vs : Nat → Value) (fs : Nat → Fm) (P : Nat → Prop) (w : World) (h : PD tk w b vs fs P) (hk : k < 7) (hm : (fs k).fine) :
    Calls Tryz.prog 32 #[.pointer (some ⟨b, 0, none⟩), .int .i64 (k : Int)] w fun e w' => e = .returned (.int .i64 (syncF (fs k)).1) ∧ PX tk w w' b (upd fs k (syncF (fs k)).2) P := by
  go_enter Tryz.func32, Tryz.ntmps32
  go_wp2_with fail
  refine (files_any b _).mono ?_
  rintro e w1 ⟨rfl, rfl⟩
  go_wp2_with fail
  refine (dSync_in b k vs fs P _ h hk hm).mono ?_
  rintro e w2 ⟨rfl, hx⟩
  have HX := hide hx
  clear hx h
  go_wp2_with fail
  go_ret
  exact ⟨rfl, HX.out⟩
theorem pCut_in (b k : Nat) (n : Int) (vs : Nat → Value) (fs : Nat → Fm) (P : Nat → Prop) (w : World) (h : PD tk w b vs fs P) (hk : k < 7) (hm : (fs k).fine) :
    Calls Tryz.prog 80 #[.pointer (some ⟨b, 0, none⟩), .int .i64 (k : Int), .int .i64 n] w fun e w' => e = .returned (.int .i64 (cutF (fs k) n).1) ∧ PX tk w w' b (upd fs k (cutF (fs k) n).2) P := by
  go_enter Tryz.func80, Tryz.ntmps80
  go_wp2_with fail
  refine (files_any b _).mono ?_
  rintro e w1 ⟨rfl, rfl⟩
  go_wp2_with fail
  refine (dCut_in b k n vs fs P _ h hk hm).mono ?_
  rintro e w2 ⟨rfl, hx⟩
  have HX := hide hx
  clear hx h
  go_wp2_with fail
  go_ret
  exact ⟨rfl, HX.out⟩
theorem pRead_in (b k : Nat) (vs : Nat → Value) (fs : Nat → Fm) (P : Nat → Prop) (w : World) (h : PD tk w b vs fs P) (hk : k < 7) (hm : (fs k).fine) :
    Calls Tryz.prog 30 #[.pointer (some ⟨b, 0, none⟩), .int .i64 (k : Int)] w fun e w' => e = .returned (.tuple #[.string (textOf (readF (fs k)).1), .int .i64 (readF (fs k)).2]) ∧ PX tk w w' b (upd fs k (fs k).tick) P := by
  go_enter Tryz.func30, Tryz.ntmps30
  go_wp2_with fail
  refine (files_any b _).mono ?_
  rintro e w1 ⟨rfl, rfl⟩
  go_wp2_with fail
  refine (dRead_in b k vs fs P _ h hk hm).mono ?_
  rintro e w2 ⟨rfl, hx⟩
  have HX := hide hx
  clear hx h
  go_wp2_with fail
  go_ret2
  exact ⟨rfl, HX.out⟩
theorem pTrouble_in (b k : Nat) (n : Int) (vs : Nat → Value) (fs : Nat → Fm) (P : Nat → Prop) (w : World) (h : PD tk w b vs fs P) (hk : k < 7) :
    Calls Tryz.prog 24 #[.pointer (some ⟨b, 0, none⟩), .int .i64 (k : Int), .int .i64 n] w fun e w' => e = .returned (.int .i64 (troubleF (fs k) n).1) ∧ PX tk w w' b (upd fs k (troubleF (fs k) n).2) P := by
  go_enter Tryz.func24, Tryz.ntmps24
  go_wp2_with fail
  refine (files_any b _).mono ?_
  rintro e w1 ⟨rfl, rfl⟩
  go_wp2_with fail
  refine (dTrouble_in b k n vs fs P _ h hk).mono ?_
  rintro e w2 ⟨rfl, hx⟩
  have HX := hide hx
  clear hx h
  go_wp2_with fail
  go_ret
  exact ⟨rfl, HX.out⟩
theorem crash_bytes (m : Fm) (keep : Int) (junk : List UInt8) : m.bytes.take (m.lasts.length + keptN (m.bytes.length - m.lasts.length) keep) ++ junk.take (m.bytes.length - m.lasts.length - keptN (m.bytes.length - m.lasts.length) keep) = (m.crash keep junk).bytes := by
  unfold Fm.crash Fm.bytes
  have e : (m.lasts ++ m.late).length - m.lasts.length = m.late.length := by rw [List.length_append]; omega
  rw [e, List.append_nil, List.take_length_add_append]
theorem PD.crash {w w1 : World} {b k : Nat} {vs : Nat → Value} {fs : Nat → Fm} {P : Nat → Prop} (h : PD tk w b vs fs P) (hk : k < 7) (keep : Int) (junk : List UInt8) (v' : Value) (hg : w.grownBy w1 (vs k).ownBlock) (hn : Newer w (vs k) v') (hb : Bd w1 v' ((fs k).crash keep junk).bytes) :
    PX tk w (((w1.setCell ⟨b, k * 3, none⟩ v').setCell ⟨b, k * 3 + 1, none⟩ (.int .i64 (((fs k).crash keep junk).bytes.length : Nat))).setCell ⟨b, k * 3 + 2, none⟩ (.int .i64 0)) b (upd fs k ((fs k).crash keep junk)) P := by
  refine h.grown hk v' ((fs k).crash keep junk) hg (((only_set w1 _ _ _).then (only_set _ _ _ _)).then (only_set _ _ _ _)) (fun o ho => ((set_off _ (by omega)).trans (set_off _ (by omega))).trans (set_off _ (by omega))) (fun o => by rw [World.frozen?_setCell, World.frozen?_setCell, World.frozen?_setCell]) (fun hh j hj => ?_) hb hn
  match j, hj with
  | 0, _ => exact ((set_off _ (by omega)).trans (set_off _ (by omega))).trans (set_same _ (hh 0 (by omega)))
  | 1, _ =>
    refine (set_off _ (by omega)).trans ((set_same _ ((set_off _ (by omega)).trans (hh 1 (by omega)))).trans ?_)
    have e : ((fs k).crash keep junk).bytes = ((fs k).crash keep junk).lasts := List.append_nil _
    rw [e]; rfl
  | 2, _ =>
    refine (set_same _ (((set_off _ (by omega)).trans (set_off _ (by omega))).trans (hh 2 (by omega)))).trans ?_
    have e : ((fs k).crash keep junk).left = 0 := Nat.zero_sub _
    simp only [cellP, e]
    rfl
theorem PD.taken {w : World} {b : Nat} {vs : Nat → Value} {fs : Nat → Fm} {P : Nat → Prop} (h : PD tk w b vs fs P) : PX (tk + 1) w (w.setCell ⟨b, 21, none⟩ (.int .i64 ((tk + 1 : Nat) : Int))) b fs P := by
  refine ⟨vs, P, ⟨fun k hk j hj => (set_off _ (by omega)).trans (h.c k hk j hj), set_same _ h.hc, fun o => (World.frozen?_setCell ..).trans (h.fz o), fun k hk => own_kept (h.row k hk) fun g hg => Below.heap_setCell w _ _ g (h.pv k hk g hg).2, h.pb, fun x hx => ?_, h.pv, h.pd⟩, (only_set w b 21 _).mono (fun x _ q => q ▸ h.pb), fun x q => .inl q⟩
  exact Nat.lt_of_lt_of_le (h.lt x hx) (only_set w b 21 _).size
theorem dTake_any (b : Nat) (vs : Nat → Value) (fs : Nat → Fm) (P : Nat → Prop) (w : World) (h : PD tk w b vs fs P) (ht : tk < 4611686018427387904) :
    Calls Tryz.prog 126 #[.pointer (some ⟨b, 0, none⟩)] w fun e w' => e = .returned (.int .i64 ((tk + 1 : Nat) : Int)) ∧ PX (tk + 1) w w' b fs P := by
  have hc := h.hc
  have hf := h.fz 21
  have HX := hide h.taken
  clear h
  go_enter Tryz.func126, Tryz.ntmps126
  go_wp2_with fail
  go_ret
  have e1 : ((tk : Int) + 1) = ((tk + 1 : Nat) : Int) := by omega
  rw [e1]
  exact ⟨rfl, HX.out⟩
theorem dHeld_any (b : Nat) (n : Int) (vs : Nat → Value) (fs : Nat → Fm) (P : Nat → Prop) (w : World) (h : PD tk w b vs fs P) :
    Calls Tryz.prog 185 #[.pointer (some ⟨b, 0, none⟩), .int .i64 n] w fun e w' => e = .returned (.bool ((tk : Int) == n)) ∧ w' = w := by
  have hc := h.hc
  clear h
  go_enter Tryz.func185, Tryz.ntmps185
  go_wp2_with fail
  go_ret
  exact ⟨rfl, rfl⟩
set_option maxRecDepth 100000 in
set_option maxHeartbeats 400000 in
theorem dCrash_any (b : Nat) (keep : Int) (junk : List UInt8) (vs : Nat → Value) (fs : Nat → Fm) (P : Nat → Prop) (w : World) (h : PD tk w b vs fs P) (hm : ∀ k, k < 7 → (fs k).fine) (hj : junk.length ≤ 140737488355328) (ht : tk < 4611686018427387904) :
    Calls Tryz.prog 63 #[.pointer (some ⟨b, 0, none⟩), .int .i64 keep, .string (textOf junk)] w fun e w' => e = .returned (.tuple #[]) ∧ PX (tk + 1) w w' b (crashed fs keep junk 7) P := by
  have HM := hide hm
  have H0 : Hid (PX tk w w b (crashed fs keep junk 0) P) := by
    show PX tk _ _ _ _ _
    rw [crashed_zero]; exact h.stay
  clear hm h
  go_enter Tryz.func63, Tryz.ntmps63
  go_wp2_with fail
  go_loopw [6, 9] (fun _ i wr => ∃ k : Nat, k ≤ 7 ∧ i = .int .i64 (k : Int) ∧ PX tk w wr b (crashed fs keep junk k) P) (fun _ i _ => 7 - (intOf i).toNat)
  case atStart => exact ⟨0, by omega, rfl, H0.out⟩
  case round =>
    obtain ⟨k, hk, rfl, hX⟩ := hrel
    by_cases hkl : k < 7
    · have HX := hide hX
      obtain ⟨vs1, P1, h1, o1, p1⟩ := hX
      have hfine := HM.out k hkl
      have c0 := h1.c0 hkl
      have c1 := h1.c1 hkl
      have c2 := h1.c2 hkl
      have r0 := h1.row k hkl
      rw [crashed_at] at c1 c2 r0
      obtain ⟨a, cap, hva⟩ := own_form r0
      have hb : (vs1 k).ownBlock ≠ some b := fun q => (h1.pv k hkl b q).2 rfl
      have HP : Hid (∀ v' w1, wr.grownBy w1 (vs1 k).ownBlock → Newer wr (vs1 k) v' → Bd w1 v' ((fs k).crash keep junk).bytes → PX tk w (((w1.setCell ⟨b, k * 3, none⟩ v').setCell ⟨b, k * 3 + 1, none⟩ (.int .i64 (((fs k).crash keep junk).bytes.length : Nat))).setCell ⟨b, k * 3 + 2, none⟩ (.int .i64 0)) b (crashed fs keep junk (k + 1)) P) := by
        intro v' w1 hg hn hbd
        refine PX.trans o1 p1 ?_
        have e := crashed_at fs keep junk k
        have q := h1.crash hkl keep junk v' hg hn (by rw [e]; exact hbd)
        rw [e, crashed_succ] at q
        exact q
      have f0 := h1.fz (k * 3)
      have f1 := h1.fz (k * 3 + 1)
      have f2 := h1.fz (k * 3 + 2)
      rw [hva] at c0 r0 hb HP
      have hln : (fs k).lasts.length ≤ (fs k).bytes.length := by unfold Fm.bytes; rw [List.length_append]; omega
      have hC := fcrash_any b (k * 3) (fs k).lasts.length cap _ a (fs k).bytes junk keep wr c0 c1 c2 f0 f1 f2 r0 hb hln hfine.1 (by unfold maxLen; omega)
      rw [crash_bytes] at hC
      have HC := hide hC
      clear h1 o1 p1 hva c0 c1 c2 r0 f0 f1 f2 hb hC HX
      go_wp2_with fail
      refine HC.out.mono ?_
      rintro e w2 ⟨rfl, v', w3, hw, hg, hn, hbd⟩
      have HN := hide (HP.out v' w3 hg hn hbd)
      rw [← hw] at HN
      clear hw hg hn hbd
      go_wp2_with fail
      go_roundw
      case rel => exact ⟨k + 1, by omega, by go_num, HN.out⟩
      case measure => simp [intOf]; omega
    · obtain rfl : k = 7 := by omega
      obtain ⟨vs1, P1, h1, o1, p1⟩ := hX
      have O1 := hide o1
      have PP1 := hide p1
      have H1 := hide h1
      clear o1 p1 h1
      go_wp2_with fail
      refine (dTake_any b vs1 _ P1 _ H1.out ht).mono ?_
      rintro e w2 ⟨rfl, hx⟩
      have HX := hide (PX.trans O1.out PP1.out hx)
      clear hx
      go_wp2_with fail
      exact bodyPost_end (v := .tuple #[]) (by simp [results, Tryz.results63]) rfl ⟨rfl, HX.out⟩
theorem pCrash_any (b : Nat) (keep : Int) (junk : List UInt8) (vs : Nat → Value) (fs : Nat → Fm) (P : Nat → Prop) (w : World) (h : PD tk w b vs fs P) (hm : ∀ k, k < 7 → (fs k).fine) (hj : junk.length ≤ 140737488355328) (ht : tk < 4611686018427387904) :
    Calls Tryz.prog 29 #[.pointer (some ⟨b, 0, none⟩), .int .i64 keep, .string (textOf junk)] w fun e w' => e = .returned (.tuple #[]) ∧ PX (tk + 1) w w' b (crashed fs keep junk 7) P := by
  go_enter Tryz.func29, Tryz.ntmps29
  go_wp2_with fail
  refine (files_any b _).mono ?_
  rintro e w1 ⟨rfl, rfl⟩
  go_wp2_with fail
  refine (dCrash_any b keep junk vs fs P _ h hm hj ht).mono ?_
  rintro e w2 ⟨rfl, hx⟩
  have HX := hide hx
  clear hx h hm
  go_wp2_with fail
  exact bodyPost_end (v := .tuple #[]) (by simp [results, Tryz.results29]) rfl ⟨rfl, HX.out⟩
end Go.Proofs.YtneepapppbchnaaGreat
