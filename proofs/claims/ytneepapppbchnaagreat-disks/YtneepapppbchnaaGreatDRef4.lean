/- The disk of the document's answer: the walk of Crash. -/
import Derived.Test.YtneepapppbchnaaGreatDRef3
namespace Go.Proofs.YtneepapppbchnaaGreat
open Go.RowKit
set_option linter.unusedVariables false

/-- what lasts when n of the loose bytes have been looked at -/
def Fm.part (m : Fm) (keep : Int) (junk : List UInt8) (n : Nat) : Fm := { m with lasts := m.lasts ++ m.late.take (min n keep.toNat) ++ junk.take (n - keep.toNat) }
theorem part_zero (m : Fm) (keep : Int) (junk : List UInt8) : m.part keep junk 0 = m := by
  unfold Fm.part
  simp
theorem part_keep (m : Fm) (keep : Int) (junk : List UInt8) (n : Nat) (h : (n : Int) < keep) (hn : n < m.late.length) : (m.part keep junk (n + 1)).lasts = (m.part keep junk n).lasts ++ [m.late[n]] := by
  unfold Fm.part
  dsimp only
  rw [Nat.min_eq_left (by omega), Nat.min_eq_left (by omega), show n + 1 - keep.toNat = 0 by omega, show n - keep.toNat = 0 by omega, List.take_succ_eq_append_getElem hn]
  simp
theorem part_junk (m : Fm) (keep : Int) (junk : List UInt8) (n : Nat) (h : ¬ (n : Int) < keep) (hn : n - keep.toNat < junk.length) : (m.part keep junk (n + 1)).lasts = (m.part keep junk n).lasts ++ [junk[n - keep.toNat]] := by
  unfold Fm.part
  dsimp only
  rw [Nat.min_eq_right (by omega), Nat.min_eq_right (by omega), show n + 1 - keep.toNat = (n - keep.toNat) + 1 by omega, List.take_succ_eq_append_getElem hn, List.append_assoc, List.append_assoc, List.append_assoc]
theorem part_none (m : Fm) (keep : Int) (junk : List UInt8) (n : Nat) (h : ¬ (n : Int) < keep) (hn : junk.length ≤ n - keep.toNat) : m.part keep junk (n + 1) = m.part keep junk n := by
  unfold Fm.part
  rw [Nat.min_eq_right (by omega), Nat.min_eq_right (by omega), List.take_of_length_le (l := junk) (i := n + 1 - keep.toNat) (by omega), List.take_of_length_le (l := junk) hn]
theorem part_len (m : Fm) (keep : Int) (junk : List UInt8) (n : Nat) (hn : n ≤ m.late.length) : (m.part keep junk n).lasts.length ≤ m.bytes.length := by
  unfold Fm.part Fm.bytes
  simp only [List.length_append, List.length_take]
  omega
theorem part_end (m : Fm) (keep : Int) (junk : List UInt8) : { m.part keep junk m.late.length with late := [], due := 0 } = m.crash keep junk := by
  unfold Fm.part Fm.crash keptN
  dsimp only
  rw [Nat.min_comm, show m.late.length - min keep.toNat m.late.length = m.late.length - keep.toNat by omega]
/-- the files ahead of i have crashed -/
def crashed (fs : Nat → Fm) (keep : Int) (junk : List UInt8) (i : Nat) : Nat → Fm := fun k => if k < i then (fs k).crash keep junk else fs k
theorem crashed_at (fs : Nat → Fm) (keep : Int) (junk : List UInt8) (i : Nat) : crashed fs keep junk i i = fs i := if_neg (by omega)
theorem crashed_zero (fs : Nat → Fm) (keep : Int) (junk : List UInt8) : crashed fs keep junk 0 = fs := by
  funext k; exact if_neg (by omega)
theorem crashed_succ (fs : Nat → Fm) (keep : Int) (junk : List UInt8) (i : Nat) : upd (crashed fs keep junk i) i ((fs i).crash keep junk) = crashed fs keep junk (i + 1) := by
  funext k
  unfold upd crashed
  by_cases h : k = i
  · subst h; rw [if_pos rfl, if_pos (by omega)]
  · rw [if_neg h]
    by_cases h2 : k < i
    · rw [if_pos h2, if_pos (by omega)]
    · rw [if_neg h2, if_neg (by omega)]
theorem text_one (l : List UInt8) (k : Nat) (h : k < l.length) : (textOf l).extract k (k + 1) = textOf [l[k]] := by
  unfold textOf
  ext1
  simp only [ByteArray.data_extract]
  apply Array.ext'
  simp only [Array.toList_extract, List.extract_eq_take_drop]
  rw [show k + 1 - k = 1 by omega, List.drop_eq_getElem_cons h, List.take_succ_cons, List.take_zero]
set_option maxRecDepth 100000 in
set_option maxHeartbeats 800000 in
theorem rCrash_any (r : Nat) (keep : Int) (junk : List UInt8) (fs : Nat → Fm) (us st : Int) (w : World) (h : RD w r fs us st) (hm : ∀ k, k < 7 → (fs k).fine) (hj : junk.length ≤ 140737488355328) :
    Calls Tryz.prog 85 #[.pointer (some ⟨r, 0, none⟩), .int .i64 keep, .string (textOf junk)] w fun e w' => e = .returned (.tuple #[]) ∧ RD w' r (crashed fs keep junk 7) 0 st ∧ Only (fun x => x = r) w w' := by
  have HM := hide hm
  have H0 : Hid (RD w r (crashed fs keep junk 0) us st ∧ Only (fun x => x = r) w w) := by
    show _ ∧ _
    rw [crashed_zero]; exact ⟨h, Only.refl _ _⟩
  have hjs : (textOf junk).size ≤ 140737488355328 := hj
  have HJ1 : Hid (∀ k (hk : k < junk.length), (textOf junk).extract k (k + 1) = textOf [junk[k]]) := fun k hk => text_one junk k hk
  have HJS : Hid ((textOf junk).size = junk.length) := textOf_size junk
  generalize textOf junk = jt at *
  clear hm h
  go_enter Tryz.func85, Tryz.ntmps85
  go_wp2_with fail
  go_loopw [6, 7, 8, 9] (fun i _ _ _ wr => ∃ k : Nat, k ≤ 7 ∧ i = .int .i64 (k : Int) ∧ RD wr r (crashed fs keep junk k) us st ∧ Only (fun x => x = r) w wr) (fun i _ _ _ _ => 7 - (intOf i).toNat)
  case atStart => exact ⟨0, by omega, rfl, H0.out⟩
  case round =>
    obtain ⟨k, hk, rfl, hR, hO⟩ := hrel
    by_cases hkl : k < 7
    · have hk0 : (0 : Int) ≤ (k : Int) := by omega
      have hk7 : (k : Int) < 7 := by omega
      have hfine := HM.out k hkl
      have c1 := hR.c1 hkl
      rw [crashed_at] at c1
      have hln : (fs k).late.length ≤ 2000 := by
        have := hfine.1
        unfold Fm.bytes at this
        rw [List.length_append] at this
        omega
      have hls : (textOf (fs k).late).size = (fs k).late.length := textOf_size _
      have hR0 : RD wr r (upd (crashed fs keep junk k) k ((fs k).part keep junk 0)) us st := by
        rw [part_zero]
        have e := upd_same (crashed fs keep junk k) k
        rw [crashed_at] at e
        rw [e]
        exact hR
      have HL1 : Hid (∀ q (hq : q < (fs k).late.length), (textOf (fs k).late).extract q (q + 1) = textOf [(fs k).late[q]]) := fun q hq => text_one _ q hq
      have HLS := hide hls
      have hl2 : (textOf (fs k).late).size ≤ 2000 := by omega
      have HR0 := hide hR0
      have HO := hide hO
      generalize textOf (fs k).late = lt at *
      clear hR hO hR0 hls
      go_wp2_with fail
      go_loopw [7, 9] (fun j n wr2 => ∃ q : Nat, q ≤ (fs k).late.length ∧ n = .int .i64 (q : Int) ∧ j = .int .i64 ((min junk.length (q - keep.toNat) : Nat) : Int) ∧ RD wr2 r (upd (crashed fs keep junk k) k ((fs k).part keep junk q)) us st ∧ Only (fun x => x = r) w wr2) (fun _ n _ => (fs k).late.length - (intOf n).toNat)
      case atStart => exact ⟨0, Nat.zero_le _, rfl, by simp, HR0.out, HO.out⟩
      case round =>
        obtain ⟨q, hq, rfl, rfl, hR, hO⟩ := hrel
        have c0 := hR.c0 hkl
        have f0 := hR.fz (k * 4)
        rw [upd_at] at c0
        have hpl := part_len (fs k) keep junk q hq
        have hb0 := hfine.1
        have hps : (textOf ((fs k).part keep junk q).lasts).size ≤ 2000 := by rw [textOf_size]; omega
        obtain ⟨jn, hjn⟩ : ∃ jn, jn = min junk.length (q - keep.toNat) := ⟨_, rfl⟩
        rw [← hjn]
        have hjl : jn ≤ 140737488355328 := by omega
        by_cases hql : q < (fs k).late.length
        · have hqs : (q : Int) < (lt.size : Int) := by have := HLS.out; omega
          have hq2 : q < 2000 := by omega
          by_cases hkp : (q : Int) < keep
          · have HP : Hid (∀ x, x = textOf ((fs k).part keep junk q).lasts ++ lt.extract q (q + 1) → RD (wr.setCell ⟨r, k * 4, none⟩ (.string x)) r (upd (crashed fs keep junk k) k ((fs k).part keep junk (q + 1))) us st) := by
              rintro x rfl
              have h2 := hR.put hkl (i := 0) (by omega) (.string (textOf ((fs k).part keep junk q).lasts ++ lt.extract q (q + 1))) ((fs k).part keep junk (q + 1)) (by
                show Value.string _ = _
                rw [part_keep _ _ _ _ hkp hql, HL1.out q hql, textOf_append]) (fun j hj hj2 => by
                rw [upd_at]
                match j, hj with
                | 0, _ => exact absurd rfl hj2
                | 1, _ => rfl
                | 2, _ => rfl
                | 3, _ => rfl)
              rw [upd_upd] at h2
              exact h2
            have HJN : Hid (jn = min junk.length (q + 1 - keep.toNat)) := by
              show _ = _
              omega
            have HO2 := hide hO
            have hsz : ¬ 9223372036854775807 < (textOf ((fs k).part keep junk q).lasts).size + (lt.extract q (q + 1)).size := by
              rw [HL1.out q hql, textOf_size [_]]
              simp only [List.length_singleton]
              omega
            generalize textOf ((fs k).part keep junk q).lasts = la at *
            clear hR hO hjn
            go_wp2_with fail
            go_region
            go_wp2_with fail
            go_roundw
            case rel => exact ⟨q + 1, by omega, by go_num, by rw [← HJN.out], (HP.out _ rfl).like (Like.refl _).drew, HO2.out.then (only_set _ _ _ _).drew⟩
            case measure => simp [intOf]; omega
          · by_cases hjj : jn < junk.length
            · have hje : jn = q - keep.toNat := by omega
              have hjt : (jn : Int) < (jt.size : Int) := by have := HJS.out; omega
              have HP : Hid (∀ x, x = textOf ((fs k).part keep junk q).lasts ++ jt.extract jn (jn + 1) → RD (wr.setCell ⟨r, k * 4, none⟩ (.string x)) r (upd (crashed fs keep junk k) k ((fs k).part keep junk (q + 1))) us st) := by
                rintro x rfl
                have h2 := hR.put hkl (i := 0) (by omega) (.string (textOf ((fs k).part keep junk q).lasts ++ jt.extract jn (jn + 1))) ((fs k).part keep junk (q + 1)) (by
                  show Value.string _ = _
                  subst hje
                  rw [part_junk _ _ _ _ hkp hjj, HJ1.out _ hjj, textOf_append]) (fun j hj hj2 => by
                  rw [upd_at]
                  match j, hj with
                  | 0, _ => exact absurd rfl hj2
                  | 1, _ => rfl
                  | 2, _ => rfl
                  | 3, _ => rfl)
                rw [upd_upd] at h2
                exact h2
              have HJN : Hid (jn + 1 = min junk.length (q + 1 - keep.toNat)) := by
                show _ = _
                omega
              have HO2 := hide hO
              have hsz : ¬ 9223372036854775807 < (textOf ((fs k).part keep junk q).lasts).size + (jt.extract jn (jn + 1)).size := by
                rw [HJ1.out jn hjj, textOf_size [_]]
                simp only [List.length_singleton]
                omega
              generalize textOf ((fs k).part keep junk q).lasts = la at *
              clear hR hO hjn hje
              go_wp2_with fail
              go_region
              go_wp2_with fail
              go_roundw
              case rel => exact ⟨q + 1, by omega, by go_num, by rw [← HJN.out]; go_num, (HP.out _ rfl).like (Like.refl _).drew, HO2.out.then (only_set _ _ _ _).drew⟩
              case measure => simp [intOf]; omega
            · have hjt : ¬ (jn : Int) < (jt.size : Int) := by have := HJS.out; omega
              have HJN : Hid (jn = min junk.length (q + 1 - keep.toNat)) := by
                show _ = _
                omega
              have HP : Hid (RD wr r (upd (crashed fs keep junk k) k ((fs k).part keep junk (q + 1))) us st) := by
                rw [part_none _ _ _ _ hkp (by omega)]; exact hR
              have HO2 := hide hO
              clear hR hO hjn
              go_wp2_with fail
              go_roundw
              case rel => exact ⟨q + 1, by omega, by go_num, by rw [← HJN.out], HP.out, HO2.out⟩
              case measure => simp [intOf]; omega
        · have hqe : q = (fs k).late.length := by omega
          have hqs : ¬ (q : Int) < (lt.size : Int) := by have := HLS.out; omega
          have c1 := hR.c1 hkl
          have c3 := hR.c3 hkl
          have f1 := hR.fz (k * 4 + 1)
          have f3 := hR.fz (k * 4 + 3)
          have q3 : ∀ x, (wr.setCell ⟨r, k * 4 + 1, none⟩ x).cell? ⟨r, k * 4 + 3, none⟩ = wr.cell? ⟨r, k * 4 + 3, none⟩ := fun x => set_off _ (by omega)
          have q3' := (q3 (.string ⟨#[]⟩)).trans c3
          have HP : Hid (RD ((wr.setCell ⟨r, k * 4 + 1, none⟩ (.string ⟨#[]⟩)).setCell ⟨r, k * 4 + 3, none⟩ (.int .i64 0)) r (crashed fs keep junk (k + 1)) us st) := by
            have h2 := hR.put hkl (i := 1) (by omega) (.string ⟨#[]⟩) { (fs k).part keep junk q with late := [] } rfl (fun j hj hj2 => by
              rw [upd_at]
              match j, hj with
              | 0, _ => rfl
              | 1, _ => exact absurd rfl hj2
              | 2, _ => rfl
              | 3, _ => rfl)
            have h3 := h2.put hkl (i := 3) (by omega) (.int .i64 0) { (fs k).part keep junk q with late := [], due := 0 } rfl (fun j hj hj2 => by
              rw [upd_at]
              match j, hj with
              | 0, _ => rfl
              | 1, _ => rfl
              | 2, _ => rfl
              | 3, _ => exact absurd rfl hj2)
            rw [upd_upd, upd_upd, hqe, part_end, crashed_succ] at h3
            exact h3
          have HO2 := hide hO
          clear hR hO hjn c0 f0 q3 hqe
          go_wp2_with fail
          go_roundw
          case rel => exact ⟨k + 1, by omega, by go_num, HP.out, (HO2.out.then (only_set _ _ _ _)).then (only_set _ _ _ _)⟩
          case measure => simp [intOf]; omega
    · obtain rfl : k = 7 := by omega
      have cu := hR.u
      have fu := hR.fz 28
      have HP : Hid (RD (wr.setCell ⟨r, 28, none⟩ (.int .i64 0)) r (crashed fs keep junk 7) 0 st) :=
        ⟨fun k hk j hj => (set_off _ (by omega)).trans (hR.c k hk j hj), set_same _ hR.u, (set_off _ (by omega)).trans hR.s, fun o => by rw [World.frozen?_setCell]; exact hR.fz o⟩
      have HO2 := hide hO
      clear hR hO
      go_wp2_with fail
      refine bodyPost_end (v := .tuple #[]) (by simp [results, Tryz.results85]) rfl ⟨rfl, HP.out, HO2.out.then (only_set _ _ _ _)⟩
end Go.Proofs.YtneepapppbchnaaGreat
