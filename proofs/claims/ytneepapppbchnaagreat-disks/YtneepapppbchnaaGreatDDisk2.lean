/- The program's disk: the walks of Append, Sync, Cut, Read, Trouble. -/
import Derived.Test.YtneepapppbchnaaGreatDDisk
namespace Go.Proofs.YtneepapppbchnaaGreat
open Go.RowKit
set_option linter.unusedVariables false
variable {tk : Nat}

theorem PX.put {w w1 w2 : World} {b k : Nat} {fs : Nat → Fm} {m m2 : Fm} {P : Nat → Prop} (h : PX tk w w1 b (upd fs k m) P) (f : ∀ vs P1, PD tk w1 b vs (upd fs k m) P1 → PX tk w1 w2 b (upd (upd fs k m) k m2) P1) : PX tk w w2 b (upd fs k m2) P := by
  obtain ⟨vs, P1, h1, h2, h3⟩ := h
  have h4 := f vs P1 h1
  rw [upd_upd] at h4
  exact PX.trans h2 h3 h4
theorem dAppend_out (b : Nat) (f : Int) (s : ByteArray) (w : World) (hf : f < 0 ∨ 7 ≤ f) :
    Calls Tryz.prog 65 #[.pointer (some ⟨b, 0, none⟩), .int .i64 f, .string s] w fun e w' => e = .returned (.int .i64 2) ∧ w' = w := by
  go_enter Tryz.func65, Tryz.ntmps65
  go_wp2_with fail
  refine (turn_out b f _ hf).mono ?_
  rintro e w1 ⟨rfl, rfl⟩
  go_wp2_with fail
  go_ret
  exact ⟨rfl, rfl⟩
theorem pAppend_out (b : Nat) (f : Int) (s : ByteArray) (w : World) (hf : f < 0 ∨ 7 ≤ f) :
    Calls Tryz.prog 31 #[.pointer (some ⟨b, 0, none⟩), .int .i64 f, .string s] w fun e w' => e = .returned (.int .i64 2) ∧ w' = w := by
  go_enter Tryz.func31, Tryz.ntmps31
  go_wp2_with fail
  refine (files_any b _).mono ?_
  rintro e w1 ⟨rfl, rfl⟩
  go_wp2_with fail
  refine (dAppend_out b f s _ hf).mono ?_
  rintro e w1 ⟨rfl, rfl⟩
  go_wp2_with fail
  go_ret
  exact ⟨rfl, rfl⟩
theorem dSync_out (b : Nat) (f : Int) (w : World) (hf : f < 0 ∨ 7 ≤ f) :
    Calls Tryz.prog 66 #[.pointer (some ⟨b, 0, none⟩), .int .i64 f] w fun e w' => e = .returned (.int .i64 2) ∧ w' = w := by
  go_enter Tryz.func66, Tryz.ntmps66
  go_wp2_with fail
  refine (turn_out b f _ hf).mono ?_
  rintro e w1 ⟨rfl, rfl⟩
  go_wp2_with fail
  go_ret
  exact ⟨rfl, rfl⟩
theorem pSync_out (b : Nat) (f : Int) (w : World) (hf : f < 0 ∨ 7 ≤ f) :
    Calls Tryz.prog 32 #[.pointer (some ⟨b, 0, none⟩), .int .i64 f] w fun e w' => e = .returned (.int .i64 2) ∧ w' = w := by
  go_enter Tryz.func32, Tryz.ntmps32
  go_wp2_with fail
  refine (files_any b _).mono ?_
  rintro e w1 ⟨rfl, rfl⟩
  go_wp2_with fail
  refine (dSync_out b f _ hf).mono ?_
  rintro e w1 ⟨rfl, rfl⟩
  go_wp2_with fail
  go_ret
  exact ⟨rfl, rfl⟩
theorem dCut_out (b : Nat) (f : Int) (n : Int) (w : World) (hf : f < 0 ∨ 7 ≤ f) :
    Calls Tryz.prog 158 #[.pointer (some ⟨b, 0, none⟩), .int .i64 f, .int .i64 n] w fun e w' => e = .returned (.int .i64 2) ∧ w' = w := by
  go_enter Tryz.func158, Tryz.ntmps158
  go_wp2_with fail
  refine (turn_out b f _ hf).mono ?_
  rintro e w1 ⟨rfl, rfl⟩
  go_wp2_with fail
  go_ret
  exact ⟨rfl, rfl⟩
theorem pCut_out (b : Nat) (f : Int) (n : Int) (w : World) (hf : f < 0 ∨ 7 ≤ f) :
    Calls Tryz.prog 80 #[.pointer (some ⟨b, 0, none⟩), .int .i64 f, .int .i64 n] w fun e w' => e = .returned (.int .i64 2) ∧ w' = w := by
  go_enter Tryz.func80, Tryz.ntmps80
  go_wp2_with fail
  refine (files_any b _).mono ?_
  rintro e w1 ⟨rfl, rfl⟩
  go_wp2_with fail
  refine (dCut_out b f n _ hf).mono ?_
  rintro e w1 ⟨rfl, rfl⟩
  go_wp2_with fail
  go_ret
  exact ⟨rfl, rfl⟩
theorem dRead_out (b : Nat) (f : Int) (w : World) (hf : f < 0 ∨ 7 ≤ f) :
    Calls Tryz.prog 64 #[.pointer (some ⟨b, 0, none⟩), .int .i64 f] w fun e w' => e = .returned (.tuple #[.string ⟨#[]⟩, .int .i64 2]) ∧ w' = w := by
  go_enter Tryz.func64, Tryz.ntmps64
  go_wp2_with fail
  refine (turn_out b f _ hf).mono ?_
  rintro e w1 ⟨rfl, rfl⟩
  go_wp2_with fail
  go_ret2
  exact ⟨rfl, rfl⟩
theorem pRead_out (b : Nat) (f : Int) (w : World) (hf : f < 0 ∨ 7 ≤ f) :
    Calls Tryz.prog 30 #[.pointer (some ⟨b, 0, none⟩), .int .i64 f] w fun e w' => e = .returned (.tuple #[.string ⟨#[]⟩, .int .i64 2]) ∧ w' = w := by
  go_enter Tryz.func30, Tryz.ntmps30
  go_wp2_with fail
  refine (files_any b _).mono ?_
  rintro e w1 ⟨rfl, rfl⟩
  go_wp2_with fail
  refine (dRead_out b f _ hf).mono ?_
  rintro e w1 ⟨rfl, rfl⟩
  go_wp2_with fail
  go_ret2
  exact ⟨rfl, rfl⟩
theorem dTrouble_out (b : Nat) (f : Int) (n : Int) (w : World) (hf : f < 0 ∨ 7 ≤ f) :
    Calls Tryz.prog 55 #[.pointer (some ⟨b, 0, none⟩), .int .i64 f, .int .i64 n] w fun e w' => e = .returned (.int .i64 2) ∧ w' = w := by
  go_enter Tryz.func55, Tryz.ntmps55
  go_wp2_with fail
  refine (find_out b f _ hf).mono ?_
  rintro e w1 ⟨rfl, rfl⟩
  go_wp2_with fail
  go_ret
  exact ⟨rfl, rfl⟩
theorem pTrouble_out (b : Nat) (f : Int) (n : Int) (w : World) (hf : f < 0 ∨ 7 ≤ f) :
    Calls Tryz.prog 24 #[.pointer (some ⟨b, 0, none⟩), .int .i64 f, .int .i64 n] w fun e w' => e = .returned (.int .i64 2) ∧ w' = w := by
  go_enter Tryz.func24, Tryz.ntmps24
  go_wp2_with fail
  refine (files_any b _).mono ?_
  rintro e w1 ⟨rfl, rfl⟩
  go_wp2_with fail
  refine (dTrouble_out b f n _ hf).mono ?_
  rintro e w1 ⟨rfl, rfl⟩
  go_wp2_with fail
  go_ret
  exact ⟨rfl, rfl⟩
theorem nilText {P : Program} (w : World) (src dst e : TypeId) (hs : P.underlying src = some (.slice e)) (he : P.underlying e = some (.int .u8)) (hd : P.underlying dst = some .string) : (convert src dst (.slice none 0 0)).run P w = .ok (.string ⟨#[]⟩) w := by
  rw [run_convert_bytes_string w src dst e none 0 0 hs he hd]
  simp [Conv.bytesToString]
  rfl
theorem fine_left {m : Fm} (h : m.fine) : m.left < 9223372036854775808 := by have := h.2.2; unfold Fm.left; omega
set_option maxRecDepth 100000 in
theorem dSync_in (b k : Nat) (vs : Nat → Value) (fs : Nat → Fm) (P : Nat → Prop) (w : World) (h : PD tk w b vs fs P) (hk : k < 7) (hm : (fs k).fine) :
    Calls Tryz.prog 66 #[.pointer (some ⟨b, 0, none⟩), .int .i64 (k : Int)] w fun e w' => e = .returned (.int .i64 (syncF (fs k)).1) ∧ PX tk w w' b (upd fs k (syncF (fs k)).2) P := by
  by_cases h0 : (fs k).fails
  · have hz : syncF (fs k) = (3, (fs k).tick) := if_pos h0
    rw [hz]
    dsimp only
    clear hz
    have c2 := h.c2 hk
    have e1 := (left_fails _).1 h0
    rw [e1] at c2
    have HP : Hid (PX tk w (w.setCell ⟨b, k * 3 + 2, none⟩ (.int .i64 0)) b (upd fs k (fs k).tick) P) := by
      have := h.count hk (fs k).tick rfl rfl
      rw [tick_left, e1] at this
      exact this
    have f2 := h.fz (k * 3 + 2)
    clear h
    go_enter Tryz.func66, Tryz.ntmps66
    go_wp2_with fail
    refine (turn_fail b k _ hk c2 f2).mono ?_
    rintro e w1 ⟨rfl, rfl⟩
    go_wp2_with fail
    go_ret
    exact ⟨rfl, HP.out⟩
  · have hz : syncF (fs k) = (0, (fs k).tick.all) := if_neg h0
    rw [hz]
    dsimp only
    clear hz
    go_enter Tryz.func66, Tryz.ntmps66
    go_wp2_with fail
    refine (turn_ok b k _ _ hk (fine_left hm) (fun q => h0 ((left_fails _).2 q)) (h.c2 hk) (h.fz _)).mono ?_
    rintro e w1 ⟨rfl, ht⟩
    have hx := h.ticked hk ht
    have HX := hide hx
    obtain ⟨vs1, P1, h1, o1, p1⟩ := hx
    have O1 := hide o1
    have PP1 := hide p1
    clear o1 p1
    have c0 := h1.c0 hk
    have c1 := h1.c1 hk
    have r0 := h1.row k hk
    rw [upd_at] at c1 r0
    have f0 := h1.fz (k * 3)
    have f1 := h1.fz (k * 3 + 1)
    clear ht h
    have HP : Hid (PX tk w (w1.setCell ⟨b, k * 3 + 1, none⟩ (.int .i64 ((fs k).bytes.length : Int))) b (upd fs k (fs k).tick.all) P) := by
      refine HX.out.put fun vs1 P1 h1 => h1.turned hk (vs1 k) (fs k).tick.all (only_box _ _ _ _) (fun o ho => set_off _ (by omega)) ?_ (fun o => World.frozen?_setCell ..) ?_ (Newer.refl _ _)
      · intro j hj
        match j, hj with
        | 0, _ => exact (set_off _ (by omega)).trans (h1.c0 hk)
        | 1, _ => exact set_same _ (h1.c1 hk)
        | 2, _ => exact (set_off _ (by omega)).trans ((h1.c2 hk).trans (by rw [upd_at]; rfl))
      · have e : (fs k).tick.all.bytes = (fs k).tick.bytes := List.append_nil _
        rw [e]
        have hr := h1.row k hk
        rw [upd_at] at hr
        exact own_kept hr fun g hg => Below.heap_setCell w1 _ _ g (h1.pv k hk g hg).2
    obtain ⟨a, cap, hva⟩ := own_form r0
    rw [hva] at c0
    clear HX h1 hva r0
    go_wp2_with fail
    refine (keepAll_any b (k * 3) _ cap a _ w1 c0 c1 f1).mono ?_
    rintro e w2 ⟨rfl, rfl⟩
    go_wp2_with fail
    go_ret
    exact ⟨rfl, HP.out⟩
set_option maxRecDepth 100000 in
theorem dAppend_in (b k : Nat) (s : List UInt8) (vs : Nat → Value) (fs : Nat → Fm) (P : Nat → Prop) (w : World) (h : PD tk w b vs fs P) (hk : k < 7) (hm : (fs k).fine) (hs : s.length ≤ 140737488355328) :
    Calls Tryz.prog 65 #[.pointer (some ⟨b, 0, none⟩), .int .i64 (k : Int), .string (textOf s)] w fun e w' => e = .returned (.int .i64 (appF (fs k) s).1) ∧ PX tk w w' b (upd fs k (appF (fs k) s).2) P := by
  by_cases h0 : (fs k).fails
  · have hz : appF (fs k) s = (3, (fs k).tick) := if_pos h0
    rw [hz]
    dsimp only
    clear hz
    have c2 := h.c2 hk
    have e1 := (left_fails _).1 h0
    rw [e1] at c2
    have HP : Hid (PX tk w (w.setCell ⟨b, k * 3 + 2, none⟩ (.int .i64 0)) b (upd fs k (fs k).tick) P) := by
      have := h.count hk (fs k).tick rfl rfl
      rw [tick_left, e1] at this
      exact this
    have f2 := h.fz (k * 3 + 2)
    clear h
    go_enter Tryz.func65, Tryz.ntmps65
    go_wp2_with fail
    refine (turn_fail b k _ hk c2 f2).mono ?_
    rintro e w1 ⟨rfl, rfl⟩
    go_wp2_with fail
    go_ret
    exact ⟨rfl, HP.out⟩
  · have hbl := hm.1
    obtain ⟨zz, hzz⟩ : ∃ zz, zz = appF (fs k) s := ⟨_, rfl⟩
    rw [← hzz]
    have HZ := hide hzz
    clear hzz
    go_enter Tryz.func65, Tryz.ntmps65
    go_wp2_with fail
    refine (turn_ok b k _ _ hk (fine_left hm) (fun q => h0 ((left_fails _).2 q)) (h.c2 hk) (h.fz _)).mono ?_
    rintro e w1 ⟨rfl, ht⟩
    have hx := h.ticked hk ht
    have HX := hide hx
    obtain ⟨vs1, P1, h1, o1, p1⟩ := hx
    have O1 := hide o1
    have PP1 := hide p1
    clear o1 p1
    have c0 := h1.c0 hk
    have c1 := h1.c1 hk
    have r0 := h1.row k hk
    rw [upd_at] at c1 r0
    have f0 := h1.fz (k * 3)
    have f1 := h1.fz (k * 3 + 1)
    clear ht h
    by_cases hf : 2000 < (fs k).bytes.length + s.length
    · have hz : zz = (4, (fs k).tick) := HZ.out.trans ((if_neg h0).trans (if_pos hf))
      subst hz
      clear h1
      go_wp2_with fail
      refine (lay_full b (k * 3) _ (fs k).bytes s w1 c0 r0 hbl (by unfold maxLen; omega) hf).mono ?_
      rintro e w2 ⟨rfl, rfl⟩
      go_wp2_with fail
      go_ret
      exact ⟨rfl, HX.out⟩
    · have hz : zz = (0, { (fs k).tick with late := (fs k).late ++ s }) := HZ.out.trans ((if_neg h0).trans (if_neg hf))
      subst hz
      have hb := (fun q => (h1.pv k hk b q).2 rfl : (vs1 k).ownBlock ≠ some b)
      have HP : Hid (∀ w2, Laid w1 b (k * 3) (vs1 k) ((fs k).bytes ++ s) w2 → PX tk w w2 b (upd fs k { (fs k).tick with late := (fs k).late ++ s }) P) := by
        rintro w2 ⟨v', w3, rfl, hg, hn, hr⟩
        refine PX.trans O1.out PP1.out ?_
        have q := h1.grown hk v' { (fs k).tick with late := (fs k).late ++ s } hg (only_set w3 b (k * 3) v') (fun o ho => set_off _ (by omega)) (fun o => World.frozen?_setCell ..) (fun hh j hj => by
          match j, hj with
          | 0, _ => exact set_same _ (hh 0 (by omega))
          | 1, _ => exact (set_off _ (by omega)).trans ((hh 1 (by omega)).trans (by rw [upd_at]; rfl))
          | 2, _ => exact (set_off _ (by omega)).trans ((hh 2 (by omega)).trans (by rw [upd_at]; rfl))) (by
          unfold Fm.bytes at hr ⊢
          rw [List.append_assoc] at hr
          exact hr) hn
        rw [upd_upd] at q
        exact q
      clear h1 HX
      go_wp2_with fail
      refine (lay_room b (k * 3) _ (fs k).bytes s w1 c0 f0 r0 hb (by omega)).mono ?_
      rintro e w2 ⟨rfl, hL⟩
      have HL := hide hL
      clear hL
      go_wp2_with fail
      go_ret
      exact ⟨rfl, HP.out _ HL.out⟩
set_option maxRecDepth 100000 in
theorem dCut_in (b k : Nat) (n : Int) (vs : Nat → Value) (fs : Nat → Fm) (P : Nat → Prop) (w : World) (h : PD tk w b vs fs P) (hk : k < 7) (hm : (fs k).fine) :
    Calls Tryz.prog 158 #[.pointer (some ⟨b, 0, none⟩), .int .i64 (k : Int), .int .i64 n] w fun e w' => e = .returned (.int .i64 (cutF (fs k) n).1) ∧ PX tk w w' b (upd fs k (cutF (fs k) n).2) P := by
  by_cases h0 : (fs k).fails
  · have hz : cutF (fs k) n = (3, (fs k).tick) := if_pos h0
    rw [hz]
    dsimp only
    clear hz
    have c2 := h.c2 hk
    have e1 := (left_fails _).1 h0
    rw [e1] at c2
    have HP : Hid (PX tk w (w.setCell ⟨b, k * 3 + 2, none⟩ (.int .i64 0)) b (upd fs k (fs k).tick) P) := by
      have := h.count hk (fs k).tick rfl rfl
      rw [tick_left, e1] at this
      exact this
    have f2 := h.fz (k * 3 + 2)
    clear h
    go_enter Tryz.func158, Tryz.ntmps158
    go_wp2_with fail
    refine (turn_fail b k _ hk c2 f2).mono ?_
    rintro e w1 ⟨rfl, rfl⟩
    go_wp2_with fail
    go_ret
    exact ⟨rfl, HP.out⟩
  · have hbl := hm.1
    by_cases hf : n < 0 ∨ ((fs k).bytes.length : Int) < n
    · have hz : cutF (fs k) n = (1, (fs k).tick) := (if_neg h0).trans (if_pos hf)
      rw [hz]
      dsimp only
      clear hz
      go_enter Tryz.func158, Tryz.ntmps158
      go_wp2_with fail
      refine (turn_ok b k _ _ hk (fine_left hm) (fun q => h0 ((left_fails _).2 q)) (h.c2 hk) (h.fz _)).mono ?_
      rintro e w1 ⟨rfl, ht⟩
      have hx := h.ticked hk ht
      have HX := hide hx
      obtain ⟨vs1, P1, h1, o1, p1⟩ := hx
      have O1 := hide o1
      have PP1 := hide p1
      clear o1 p1
      have c0 := h1.c0 hk
      have c1 := h1.c1 hk
      have r0 := h1.row k hk
      rw [upd_at] at c1 r0
      have f0 := h1.fz (k * 3)
      have f1 := h1.fz (k * 3 + 1)
      clear ht h
      clear h1
      have HF := hide hf
      clear hf
      go_wp2_with fail
      refine (cut_out b (k * 3) n _ (fs k).bytes w1 c0 r0 HF.out).mono ?_
      rintro e w2 ⟨rfl, rfl⟩
      go_wp2_with fail
      go_ret
      exact ⟨rfl, HX.out⟩
    · obtain ⟨j, rfl⟩ : ∃ j : Nat, n = (j : Int) := ⟨n.toNat, by omega⟩
      have hj : j ≤ (fs k).bytes.length := by omega
      have hz : cutF (fs k) (j : Int) = (0, { (fs k).tick with lasts := (fs k).bytes.take j, late := [] }) := (if_neg h0).trans (if_neg hf)
      rw [hz]
      dsimp only
      clear hz hf
      go_enter Tryz.func158, Tryz.ntmps158
      go_wp2_with fail
      refine (turn_ok b k _ _ hk (fine_left hm) (fun q => h0 ((left_fails _).2 q)) (h.c2 hk) (h.fz _)).mono ?_
      rintro e w1 ⟨rfl, ht⟩
      have hx := h.ticked hk ht
      have HX := hide hx
      obtain ⟨vs1, P1, h1, o1, p1⟩ := hx
      have O1 := hide o1
      have PP1 := hide p1
      clear o1 p1
      have c0 := h1.c0 hk
      have c1 := h1.c1 hk
      have r0 := h1.row k hk
      rw [upd_at] at c1 r0
      have f0 := h1.fz (k * 3)
      have f1 := h1.fz (k * 3 + 1)
      clear ht h
      obtain ⟨a, cap, hva⟩ := own_form r0
      have HP : Hid (PX tk w ((w1.setCell ⟨b, k * 3, none⟩ (.slice a j cap)).setCell ⟨b, k * 3 + 1, none⟩ (.int .i64 (j : Int))) b (upd fs k { (fs k).tick with lasts := (fs k).bytes.take j, late := [] }) P) := by
        refine PX.trans O1.out PP1.out ?_
        have hcut : Bd w1 (.slice a j cap) ((fs k).bytes.take j) := by
          rw [hva] at r0
          exact Bd.cut r0 j hj
        have hlen : ((fs k).bytes.take j).length = j := by rw [List.length_take]; omega
        have q := h1.grown hk (.slice a j cap) { (fs k).tick with lasts := (fs k).bytes.take j, late := [] } (grown_refl w1 _) ((only_set w1 b (k * 3) (.slice a j cap)).then (only_set _ b (k * 3 + 1) (.int .i64 (j : Int)))) (fun o ho => (set_off _ (by omega)).trans (set_off _ (by omega))) (fun o => by rw [World.frozen?_setCell, World.frozen?_setCell]) (fun hh i hi => by
          match i, hi with
          | 0, _ => exact (set_off _ (by omega)).trans (set_same _ (hh 0 (by omega)))
          | 1, _ => exact (set_same _ ((set_off _ (by omega)).trans (hh 1 (by omega)))).trans (by simp only [cellP, hlen])
          | 2, _ => exact ((set_off _ (by omega)).trans (set_off _ (by omega))).trans ((hh 2 (by omega)).trans (by rw [upd_at]; rfl))) (by
          have e : Fm.bytes { (fs k).tick with lasts := (fs k).bytes.take j, late := [] } = (fs k).bytes.take j := List.append_nil _
          rw [e]; exact hcut) (.inl (by rw [hva]; cases a <;> rfl))
        rw [upd_upd] at q
        exact q
      rw [hva] at c0 r0
      clear h1 HX hva
      go_wp2_with fail
      refine (cut_in b (k * 3) j cap a _ (fs k).bytes w1 c0 c1 f0 f1 r0 hj hbl).mono ?_
      rintro e w2 ⟨rfl, rfl⟩
      go_wp2_with fail
      go_ret
      exact ⟨rfl, HP.out⟩
set_option maxRecDepth 100000 in
theorem dRead_in (b k : Nat) (vs : Nat → Value) (fs : Nat → Fm) (P : Nat → Prop) (w : World) (h : PD tk w b vs fs P) (hk : k < 7) (hm : (fs k).fine) :
    Calls Tryz.prog 64 #[.pointer (some ⟨b, 0, none⟩), .int .i64 (k : Int)] w fun e w' => e = .returned (.tuple #[.string (textOf (readF (fs k)).1), .int .i64 (readF (fs k)).2]) ∧ PX tk w w' b (upd fs k (fs k).tick) P := by
  by_cases h0 : (fs k).fails
  · have hz : readF (fs k) = ([], 3) := if_pos h0
    rw [hz]
    dsimp only
    clear hz
    have c2 := h.c2 hk
    have e1 := (left_fails _).1 h0
    rw [e1] at c2
    have HP : Hid (PX tk w (w.setCell ⟨b, k * 3 + 2, none⟩ (.int .i64 0)) b (upd fs k (fs k).tick) P) := by
      have := h.count hk (fs k).tick rfl rfl
      rw [tick_left, e1] at this
      exact this
    have f2 := h.fz (k * 3 + 2)
    clear h
    go_enter Tryz.func64, Tryz.ntmps64
    go_wp2_with fail
    refine (turn_fail b k _ hk c2 f2).mono ?_
    rintro e w1 ⟨rfl, rfl⟩
    go_wp2_with fail
    go_ret2
    exact ⟨rfl, HP.out⟩
  · have hz : readF (fs k) = ((fs k).bytes, 0) := if_neg h0
    rw [hz]
    dsimp only
    clear hz
    go_enter Tryz.func64, Tryz.ntmps64
    go_wp2_with fail
    refine (turn_ok b k _ _ hk (fine_left hm) (fun q => h0 ((left_fails _).2 q)) (h.c2 hk) (h.fz _)).mono ?_
    rintro e w1 ⟨rfl, ht⟩
    have hx := h.ticked hk ht
    have HX := hide hx
    obtain ⟨vs1, P1, h1, o1, p1⟩ := hx
    have O1 := hide o1
    have PP1 := hide p1
    clear o1 p1
    have c0 := h1.c0 hk
    have c1 := h1.c1 hk
    have r0 := h1.row k hk
    rw [upd_at] at c1 r0
    have f0 := h1.fz (k * 3)
    have f1 := h1.fz (k * 3 + 1)
    clear ht h
    have hcv : (convert 106 9 (vs1 k)).run Tryz.prog w1 = .ok (.string (textOf (fs k).bytes)) w1 := by
      have r1 : Bd w1 (vs1 k) (fs k).bytes := r0
      rcases r1.shape with ⟨e1, e2⟩ | ⟨g, cap, e1, _⟩
      · rw [e1, e2]
        exact nilText w1 _ _ _ Tryz.underlying106 Tryz.underlying5 Tryz.underlying9
      · have hcl := World.ownsRow.cells r1 (g := g) (by rw [e1]; rfl)
        rw [e1]
        exact toText w1 _ _ _ g cap _ (fs k).bytes rfl Tryz.underlying106 Tryz.underlying5 Tryz.underlying9 (fun j hj => by
          have := hcl j (byteW (fs k).bytes[j]) (by rw [List.getElem?_map, List.getElem?_eq_getElem hj]; rfl)
          simp only [Addr.add_lit, Nat.zero_add] at this
          exact this)
    obtain ⟨a, cap, hva⟩ := own_form r0
    rw [hva] at c0 r0 hcv
    clear h1 hva
    generalize htb : textOf (fs k).bytes = tb at *
    have HTB := hide htb
    clear htb
    go_wp2_with fail
    go_ret2
    exact ⟨by rw [HTB.out]; rfl, HX.out⟩
set_option maxRecDepth 100000 in
theorem dTrouble_in (b k : Nat) (n : Int) (vs : Nat → Value) (fs : Nat → Fm) (P : Nat → Prop) (w : World) (h : PD tk w b vs fs P) (hk : k < 7) :
    Calls Tryz.prog 55 #[.pointer (some ⟨b, 0, none⟩), .int .i64 (k : Int), .int .i64 n] w fun e w' => e = .returned (.int .i64 (troubleF (fs k) n).1) ∧ PX tk w w' b (upd fs k (troubleF (fs k) n).2) P := by
  by_cases h0 : n < 0
  · have hz : troubleF (fs k) n = (1, fs k) := if_pos h0
    rw [hz, upd_same]
    dsimp only
    clear hz
    have HP := hide h.stay
    clear h
    go_enter Tryz.func55, Tryz.ntmps55
    go_wp2_with fail
    refine (find_in b k _ hk).mono ?_
    rintro e w1 ⟨rfl, rfl⟩
    go_wp2_with fail
    go_ret
    exact ⟨rfl, HP.out⟩
  · have hz : troubleF (fs k) n = (0, { fs k with turns := 0, due := n.toNat }) := if_neg h0
    rw [hz]
    dsimp only
    clear hz
    have c2 := h.c2 hk
    have f2 := h.fz (k * 3 + 2)
    have HP : Hid (PX tk w (w.setCell ⟨b, k * 3 + 2, none⟩ (.int .i64 n)) b (upd fs k { fs k with turns := 0, due := n.toNat }) P) := by
      have := h.count hk { fs k with turns := 0, due := n.toNat } rfl rfl
      have e : ((Fm.left { fs k with turns := 0, due := n.toNat } : Nat) : Int) = n := by unfold Fm.left; dsimp only; omega
      rw [e] at this
      exact this
    clear h
    go_enter Tryz.func55, Tryz.ntmps55
    go_wp2_with fail
    refine (find_in b k _ hk).mono ?_
    rintro e w1 ⟨rfl, rfl⟩
    go_wp2_with fail
    go_ret
    exact ⟨rfl, HP.out⟩
end Go.Proofs.YtneepapppbchnaaGreat
