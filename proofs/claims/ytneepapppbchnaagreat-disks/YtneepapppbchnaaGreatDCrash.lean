/- The walk of a file's crash, the program's. -/
import Derived.Test.YtneepapppbchnaaGreatDCut
import Derived.Deep.Cut
namespace Go.Proofs.YtneepapppbchnaaGreat
open Go.RowKit
set_option linter.unusedVariables false

/-- how many of the loose bytes stay; what comes in place of the lost ones -/
def keptN (loose : Nat) (keep : Int) : Nat := min keep.toNat loose
def Fm.crash (m : Fm) (keep : Int) (junk : List UInt8) : Fm :=
  ⟨m.lasts ++ m.late.take (keptN m.late.length keep) ++ junk.take (m.late.length - keptN m.late.length keep), [], m.turns, 0⟩
theorem text_cut (l : List UInt8) (k : Nat) : (textOf l).extract 0 k = textOf (l.take k) := by
  unfold textOf
  ext1
  simp only [ByteArray.data_extract]
  apply Array.ext'
  simp [List.extract_eq_take_drop]
theorem kept_all {L n kp : Nat} {keep : Int} (e : kp = min keep.toNat (L - n)) (hn : n ≤ L) (h : (L : Int) - n < if keep < 0 then 0 else keep) : (L : Int) - n = kp := by
  split at h <;> omega
theorem kept_none {L n kp : Nat} {keep : Int} (e : kp = min keep.toNat (L - n)) (h : keep < 0) : (0 : Int) = kp := by omega
theorem kept_some {L n kp : Nat} {keep : Int} (e : kp = min keep.toNat (L - n)) (hn : n ≤ L) (h : 0 ≤ keep) (h2 : (if keep < 0 then 0 else keep) ≤ (L : Int) - n) : keep = kp := by
  split at h2 <;> omega
theorem grown_from {w wd w1 : World} {r : Option Nat} (h : w.grownBy wd none) (he : wd.heap = w.heap) (hg : wd.drew.grownBy w1 r) : w.grownBy w1 r := by
  have e : wd.drew.heap = w.heap := he
  have hs := hg.size
  rw [e] at hs
  refine ⟨hg.os.trans h.os, hg.tape.trans h.tape, hg.output.trans h.output, hs, fun k hk hne => ?_⟩
  rw [hg.block k (by rw [e]; exact hk) hne, e]
theorem newer_from {w wd : World} {v v' : Value} (he : wd.heap = w.heap) (h : Newer wd.drew v v') : Newer w v v' := by
  rcases h with h | ⟨g, h, hg⟩
  · exact .inl h
  · have e : wd.drew.heap = w.heap := he
    rw [e] at hg
    exact .inr ⟨g, h, hg⟩
set_option maxRecDepth 100000 in
set_option maxHeartbeats 400000 in
theorem fcrash_any (b o n cap t : Nat) (a : Option Addr) (l junk : List UInt8) (keep : Int) (w : World) (hc : w.cell? ⟨b, o, none⟩ = some (.slice a l.length cap)) (hc1 : w.cell? ⟨b, o + 1, none⟩ = some (.int .i64 (n : Int))) (hc2 : w.cell? ⟨b, o + 2, none⟩ = some (.int .i64 (t : Int)))
    (hf : w.frozen? ⟨b, o, none⟩ = false) (hf1 : w.frozen? ⟨b, o + 1, none⟩ = false) (hf2 : w.frozen? ⟨b, o + 2, none⟩ = false) (hv : Bd w (.slice a l.length cap) l) (hb : (Value.slice a l.length cap).ownBlock ≠ some b) (hn : n ≤ l.length) (hl : l.length ≤ 2000) (hj : junk.length ≤ maxLen) :
    Calls Tryz.prog 125 #[.pointer (some ⟨b, o, none⟩), .int .i64 keep, .string (textOf junk)] w fun e w' => e = .returned (.tuple #[]) ∧ ∃ v' w1, w' = ((w1.setCell ⟨b, o, none⟩ v').setCell ⟨b, o + 1, none⟩ (.int .i64 ((l.take (n + keptN (l.length - n) keep) ++ junk.take (l.length - n - keptN (l.length - n) keep)).length : Nat))).setCell ⟨b, o + 2, none⟩ (.int .i64 0) ∧ w.grownBy w1 (Value.slice a l.length cap).ownBlock ∧ Newer w (.slice a l.length cap) v' ∧ Bd w1 v' (l.take (n + keptN (l.length - n) keep) ++ junk.take (l.length - n - keptN (l.length - n) keep)) := by
  obtain ⟨i0, hi, hz0, hz1', hz2⟩ := info_parts Tryz.infoByte
  obtain ⟨kp, hkp⟩ : ∃ kp, kp = keptN (l.length - n) keep := ⟨_, rfl⟩
  have hkl : kp ≤ l.length - n := by rw [hkp]; exact Nat.min_le_right _ _
  have HKP := hide hkp
  rw [← hkp]
  clear hkp
  have HJ : Hid (∀ k, (textOf junk).extract 0 k = textOf (junk.take k)) := text_cut junk
  have hz := textOf_size junk
  unfold maxLen at hj
  have hz1 : (textOf junk).size ≤ 9223372036854775807 := by omega
  have HZ := hide hz
  generalize hjt : textOf junk = jt at *
  have HJT := hide hjt
  clear hz hjt
  go_enter Tryz.func125, Tryz.ntmps125
  go_wp2_with fail
  go_quiet (fail)
  go_upto_region 1 with fail
  go_cut [7] from 18 (fun x wc => x = .int .i64 (kp : Int) ∧ wc = w.drewN nq)
  case first =>
    go_wp2_with fail
    all_goals
      go_meet
      case rel =>
        refine ⟨?_, rfl⟩
        have e := HKP.out
        unfold keptN at e
        congr 1
        first
          | exact kept_all e hn (by assumption)
          | exact kept_none e (by assumption)
          | exact kept_some e hn (by assumption) (by assumption)
  case rest =>
    obtain ⟨rfl, rfl⟩ := hcut
    go_upto_region 2 with fail
    go_cut [2] from 18 (fun x wc => x = .string (textOf (junk.take (l.length - n - kp))) ∧ wc = w.drewN nq)
    case first =>
      go_wp2_with fail
      · go_meet
        case rel => exact ⟨by rw [HJ.out], rfl⟩
      · go_meet
        case rel =>
          refine ⟨?_, rfl⟩
          have e := HZ.out
          rw [← HJT.out, List.take_of_length_le (by omega)]
    case rest =>
      obtain ⟨rfl, rfl⟩ := hcut
      have hjl : (textOf (junk.take (l.length - n - kp))).size ≤ 2000 := by rw [textOf_size, List.length_take]; omega
      have HT : Hid (∀ (v' : Value) (w' : World), w'.ownsRow 0 5 1 v' (n + kp + (textOf (junk.take (l.length - n - kp))).size) ((l.take (n + kp)).map byteW ++ byteCells (textOf (junk.take (l.length - n - kp)))) → Bd w' v' (l.take (n + kp) ++ junk.take (l.length - n - kp))) := by
        intro v' w' h
        refine Bd.text ?_
        rw [List.length_take, Nat.min_eq_left (by omega)]
        exact h
      have HLN : Hid (n + kp + (textOf (junk.take (l.length - n - kp))).size = (l.take (n + kp) ++ junk.take (l.length - n - kp)).length) := by
        show _ = _
        rw [List.length_append, List.length_take (i := n + kp), Nat.min_eq_left (by omega)]
        rfl
      generalize textOf (junk.take (l.length - n - kp)) = js at *
      obtain ⟨wd, hwd⟩ : ∃ wd, wd = w.drewN nq := ⟨_, rfl⟩
      have hgd : w.grownBy wd none := by rw [hwd]; exact ⟨rfl, rfl, rfl, Nat.le_refl _, fun _ _ _ => rfl⟩
      have hhd : wd.heap = w.heap := by rw [hwd]; rfl
      have HHD := hide hhd
      have ec : ∀ q, wd.cell? q = w.cell? q := fun q => by rw [hwd]; rfl
      have ef : ∀ q, wd.frozen? q = w.frozen? q := fun q => by rw [hwd]; rfl
      rw [← hwd]
      rw [← ec] at hc hc1 hc2
      rw [← ef] at hf hf1 hf2
      have hvd : Bd wd (.slice a l.length cap) l := own_kept hv fun g _ => by rw [hhd]
      have hblt : b < wd.heap.size := World.block_lt_of_cell? wd _ hc
      clear hwd hhd ec ef hv
      have HVC : Hid (wd.ownsRow 0 5 1 (.slice a (n + kp) cap) (n + kp) ((l.take (n + kp)).map byteW)) := by
        have h := own_cut hvd (n + kp) (by omega)
        rw [Nat.mul_one] at h
        rw [List.map_take]
        exact h
      have hl1 : n + kp + js.size ≤ maxLen := by unfold maxLen; omega
      have hl2 : (n + kp + js.size) * 1 ≤ 140737488355328 := by omega
      rcases hvd.shape with ⟨h1, h2⟩ | ⟨g, c, h1, h2, h3, h4⟩
      · injection h1 with ha _ hcap
        subst ha hcap h2
        obtain rfl : n = 0 := by simpa using hn
        obtain rfl : kp = 0 := by simpa using hkl
        simp only [Nat.add_zero, Nat.zero_add] at HVC hl1 hl2 HT HLN
        simp only [List.length_nil] at hb hc
        have hl1b : 0 + js.size ≤ maxLen := by rw [Nat.zero_add]; exact hl1
        have hl2b : (0 + js.size) * 1 ≤ 140737488355328 := by rw [Nat.zero_add]; exact hl2
        have hw0 : IntKind.i64.wrap 0 = 0 := rfl
        go_wp2_with fail
        go_region_law (refine step_append_all _ rfl (.tmp 41) (.tmp 42) 106 9 rfl 5 i0 (.int .u8 0) 1 1 Tryz.underlying106 hi hz0 hz1' hz2 rfl (by decide) _ _ _ (by simp [Act.eval, Act.put]) HVC.out _ js.size _ (by simp [Act.eval, Act.put]) (Src.ofString _ Tryz.underlying9 js) hl1b hl2b ?_; intro u' w1 hown hgr hnew; obtain ⟨ua, uc, hua⟩ := own_form hown; subst hua; have HOW := hide hown; have HNW := hide hnew; have HGR := hide hgr; clear hown hnew hgr; have eb := HGR.out.block b hblt (fun e => hb e.symm); have hcx := (World.cell?_of_block eb).trans hc; have hfx := (World.frozen?_of_block eb).trans hf; have hcx1 := (World.cell?_of_block eb).trans hc1; have hfx1 := (World.frozen?_of_block eb).trans hf1; have hcx2 := (World.cell?_of_block eb).trans hc2; have hfx2 := (World.frozen?_of_block eb).trans hf2; clear eb)
        all_goals
          simp only [Nat.zero_add] at HOW HNW
          have hk1 : ∀ x, (w1.setCell ⟨b, o, none⟩ x).cell? ⟨b, o + 1, none⟩ = some (.int .i64 ((0 : Nat) : Int)) := fun x => (set_off x (by omega)).trans hcx1
          have hk2 : ∀ x y, ((w1.setCell ⟨b, o, none⟩ x).setCell ⟨b, o + 1, none⟩ y).cell? ⟨b, o + 2, none⟩ = some (.int .i64 (t : Int)) := fun x y => ((set_off y (by omega)).trans (set_off x (by omega))).trans hcx2
          go_wp2_with fail
          refine (keepAll_any b o js.size uc ua _ _ (set_same _ hcx) (hk1 _) (by simpa using hfx1)).mono ?_
          rintro e wk ⟨rfl, rfl⟩
          have hq2 := hk2 (.slice ua js.size uc) (.int .i64 (js.size : Nat))
          go_wp2_with fail
          refine bodyPost_end (v := .tuple #[]) (by simp [results, Tryz.results125]) rfl ⟨rfl, _, w1, ?_, grown_from hgd HHD.out HGR.out, newer_from HHD.out HNW.out, ?_⟩
          · rw [← HLN.out]
          · exact HT.out _ _ HOW.out
      · injection h1 with ha _ hcap
        subst ha hcap
        unfold maxLen at h3
        obtain ⟨q, hq⟩ : ∃ q, q = n + kp := ⟨_, rfl⟩
        have HQ := hide hq
        have hwr : IntKind.i64.wrap ((n : Int) + (kp : Int)) = (q : Int) := by rw [IntKind.wrap_i64]; omega
        have hqc : (q : Int) ≤ (cap : Int) := by omega
        rw [← hq] at HVC hl1 hl2 HT HLN
        clear hq
        go_wp2_with fail
        go_region_law (refine step_append_all _ rfl (.tmp 41) (.tmp 42) 106 9 rfl 5 i0 (.int .u8 0) 1 1 Tryz.underlying106 hi hz0 hz1' hz2 rfl (by decide) _ _ _ (by simp [Act.eval, Act.put]) HVC.out _ js.size _ (by simp [Act.eval, Act.put]) (Src.ofString _ Tryz.underlying9 js) hl1 hl2 ?_; intro u' w1 hown hgr hnew; obtain ⟨ua, uc, hua⟩ := own_form hown; subst hua; have HOW := hide hown; have HNW := hide hnew; have HGR := hide hgr; clear hown hnew hgr; have eb := HGR.out.block b hblt (fun e => hb e.symm); have hcx := (World.cell?_of_block eb).trans hc; have hfx := (World.frozen?_of_block eb).trans hf; have hcx1 := (World.cell?_of_block eb).trans hc1; have hfx1 := (World.frozen?_of_block eb).trans hf1; have hcx2 := (World.cell?_of_block eb).trans hc2; have hfx2 := (World.frozen?_of_block eb).trans hf2; clear eb)
        all_goals
          have hk1 : ∀ x, (w1.setCell ⟨b, o, none⟩ x).cell? ⟨b, o + 1, none⟩ = some (.int .i64 ((n : Nat) : Int)) := fun x => (set_off x (by omega)).trans hcx1
          have hk2 : ∀ x y, ((w1.setCell ⟨b, o, none⟩ x).setCell ⟨b, o + 1, none⟩ y).cell? ⟨b, o + 2, none⟩ = some (.int .i64 (t : Int)) := fun x y => ((set_off y (by omega)).trans (set_off x (by omega))).trans hcx2
          go_wp2_with fail
          refine (keepAll_any b o (q + js.size) uc ua _ _ (set_same _ hcx) (hk1 _) (by simpa using hfx1)).mono ?_
          rintro e wk ⟨rfl, rfl⟩
          have hq2 := hk2 (.slice ua (q + js.size) uc) (.int .i64 ((q + js.size) : Nat))
          go_wp2_with fail
          refine bodyPost_end (v := .tuple #[]) (by simp [results, Tryz.results125]) rfl ⟨rfl, _, w1, ?_, grown_from hgd HHD.out HGR.out, newer_from HHD.out HNW.out, ?_⟩
          · rw [← HQ.out, ← HLN.out]; rfl
          · rw [← HQ.out]; exact HT.out _ _ HOW.out
end Go.Proofs.YtneepapppbchnaaGreat
