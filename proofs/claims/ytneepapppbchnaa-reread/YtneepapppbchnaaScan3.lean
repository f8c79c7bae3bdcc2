/- The walk of first. -/
import Derived.Test.YtneepapppbchnaaScan2
import Derived.Deep.DeepCutAuto
import Derived.Deep.RegionHeld3
namespace Go.Proofs.Ytneepapppbchnaa
open Go.RowKit
set_option linter.unusedVariables false

def fK (l : List UInt8) : Nat := (l.getD 1 0).toNat
def fN (l : List UInt8) : Nat := (l.getD 2 0).toNat
def fP (l : List UInt8) : List UInt8 := (l.drop 3).take (fN l)
/-- do the bytes begin with a frame? -/
def fB (l : List UInt8) : Bool := decide (3 ≤ l.length) && decide (7 + fN l ≤ l.length) && recB (fK l) (gT (fK l) (fP l)) (gG (fK l) (fP l)) (gW (fK l) (fP l)) && decide (frameL (fK l) (gT (fK l) (fP l)) (gG (fK l) (fP l)) (gW (fK l) (fP l)) = l.take (7 + fN l))
theorem text_get (l : List UInt8) (i : Nat) (h : i < l.length) : (textOf l)[i]'(by rw [textOf_size]; exact h) = l.getD i 0 := by
  show l.toArray[i] = _
  simp [h]
def zeroRec : Value := .agg #[.int .i64 0, .int .i64 0, .int .i64 0, .slice none 0 0]

set_option maxHeartbeats 400000 in
theorem first_short (l : List UInt8) (w : World) (hl : l.length ≤ 140737488355328) (h : l.length < 3) :
    Calls Try.prog 53 #[.string (textOf l)] w fun e w' => e = .returned (.tuple #[zeroRec, .int .i64 0]) ∧ Below w.heap.size w w' := by
  have hs := textOf_size l
  have h1 : (textOf l).size < 3 := by omega
  clear hs
  generalize textOf l = s at *
  unfold zeroRec
  go_enter Try.func53, Try.ntmps53
  go_wp2_with fail
  exact bodyPost_ret (v := .tuple #[.agg #[.int .i64 0, .int .i64 0, .int .i64 0, .slice none 0 0], .int .i64 0]) (by simp [results, Try.results53, go_sem]) rfl ⟨rfl, box_below _ _⟩
/-- what the walk needs to know of a text that has a head -/
theorem first_facts (l : List UInt8) (hl : l.length ≤ 140737488355328) (h : 3 ≤ l.length) : ∃ (s : ByteArray) (h1 : 3 ≤ s.size), s = textOf l ∧ s.size = l.length ∧ s.size ≤ 140737488355328 ∧ s[1].toNat = fK l ∧ s[2].toNat = fN l ∧ fN l < 256 ∧ fK l < 256 := by
  refine ⟨textOf l, by rw [textOf_size]; exact h, rfl, textOf_size l, by rw [textOf_size]; exact hl, ?_, ?_, (l.getD 2 0).toNat_lt, (l.getD 1 0).toNat_lt⟩
  · exact congrArg UInt8.toNat (text_get l 1 (by omega))
  · exact congrArg UInt8.toNat (text_get l 2 (by omega))
set_option maxHeartbeats 400000 in
theorem first_cut (l : List UInt8) (w : World) (hl : l.length ≤ 140737488355328) (h : 3 ≤ l.length) (h2 : l.length < 7 + fN l) :
    Calls Try.prog 53 #[.string (textOf l)] w fun e w' => e = .returned (.tuple #[zeroRec, .int .i64 0]) ∧ Below w.heap.size w w' := by
  obtain ⟨s, h1, hs, hz, hm, g1, g2, b1, b2⟩ := first_facts l hl h
  rw [← hs]
  have h3 : s.size < 7 + fN l := by omega
  clear hs hz h2 g1 b2
  generalize fN l = n at *
  unfold zeroRec
  go_enter Try.func53, Try.ntmps53
  go_wp2_with fail
  exact bodyPost_ret (v := .tuple #[.agg #[.int .i64 0, .int .i64 0, .int .i64 0, .slice none 0 0], .int .i64 0]) (by simp [results, Try.results53, go_sem]) rfl ⟨rfl, box_below _ _⟩
theorem RB.set0 {w : World} {r : Nat} {k t g : Int} {v : Value} (h : RB w r k t g v) (k' : Int) : RB (w.setCell ⟨r, 0, none⟩ (.int .i64 k')) r k' t g v := by
  unfold RB at *; rw [heap_setCell_at w r 0 _ _ _ _ h]; rfl
/-- the record that was guessed lies in a box of its own, its writes in a row of their own -/
def Boxed (WA : World) (k t g : Int) (rows : List WrL) (q : Value) (wc : World) : Prop :=
  ∃ r v, q = .pointer (some ⟨r, 0, none⟩) ∧ RB wc r k t g v ∧ WA.heap.size ≤ r ∧ Ws wc v rows ∧ (∀ x, v.ownBlock = some x → WA.heap.size ≤ x ∧ x ≠ r) ∧ Below WA.heap.size WA wc
theorem cutA {WA w1 : World} {k t g : Int} {v : Value} {rows : List WrL} (hws : Ws w1 v rows) (hnew : Newer WA.drew (.slice none 0 0) v) (hb1 : Below WA.drew.heap.size WA.drew w1) :
    Boxed WA k t g rows (.pointer (some ⟨w1.heap.size, 0, none⟩)) (w1.alloc (.cells #[.int .i64 k, .int .i64 t, .int .i64 g, v] 32)) := by
  have hb : Below WA.heap.size WA w1 := ((Below.refl WA.heap.size WA).drew).trans hb1
  refine ⟨_, v, rfl, RB_new w1 k t g v, hb.size, World.ownsRow.alloc hws _, fun x hx => ?_, hb.alloc hb.size _⟩
  have hlt := (World.ownsRow.lt hws x hx).2
  rcases hnew with e | ⟨q, e, hq⟩
  · rw [e] at hx; cases hx
  · rw [e] at hx; injection hx with hx; subst hx; exact ⟨hq, by omega⟩
theorem cutB {WA w1 : World} {k t g : Int} {v : Value} {rows : List WrL} {o : Obj} (ho : o = .cells #[.int .i64 0, .int .i64 0, .int .i64 0, .slice none 0 0] 32) (hws : Ws w1 v rows) (hnew : Newer (WA.alloc o).drew (.slice none 0 0) v) (hb1 : Below (WA.alloc o).drew.heap.size (WA.alloc o).drew w1) :
    Boxed WA k t g rows (.pointer (some ⟨WA.heap.size, 0, none⟩)) ((((w1.setCell ⟨WA.heap.size, 0, none⟩ (.int .i64 k)).setCell ⟨WA.heap.size, 1, none⟩ (.int .i64 t)).setCell ⟨WA.heap.size, 2, none⟩ (.int .i64 g)).setCell ⟨WA.heap.size, 3, none⟩ v) := by
  subst ho
  have hb : Below WA.heap.size WA w1 := (box_below WA _).trans (((Below.refl _ _).drew).trans (hb1.mono (by show WA.heap.size ≤ (WA.alloc _).heap.size; simp)))
  have h0 : RB (WA.alloc (.cells #[.int .i64 0, .int .i64 0, .int .i64 0, .slice none 0 0] 32)) WA.heap.size 0 0 0 (.slice none 0 0) := RB_new WA 0 0 0 _
  have h1 : RB w1 WA.heap.size 0 0 0 (.slice none 0 0) := h0.kept (hb1.block WA.heap.size (by show WA.heap.size < (WA.alloc _).heap.size; simp))
  have hx : ∀ x, v.ownBlock = some x → WA.heap.size ≤ x ∧ x ≠ WA.heap.size := by
    intro x hx
    rcases hnew with e | ⟨q, e, hq⟩
    · rw [e] at hx; cases hx
    · rw [e] at hx; injection hx with hx; subst hx
      have hq' : (WA.alloc (.cells #[.int .i64 0, .int .i64 0, .int .i64 0, .slice none 0 0] 32)).heap.size ≤ q := hq
      simp at hq'
      omega
  refine ⟨_, v, rfl, (((h1.set0 k).set1 t).set2 g).set3 v, Nat.le_refl _, hws.kept fun x hxx => ?_, hx, end4 hb (Nat.le_refl _) _ _ _ _⟩
  have := (hx x hxx).2
  rw [Below.heap_setCell _ _ _ _ this, Below.heap_setCell _ _ _ _ this, Below.heap_setCell _ _ _ _ this, Below.heap_setCell _ _ _ _ this]
theorem fP_text (l : List UInt8) (s : ByteArray) (hs : s = textOf l) : s.extract 3 (3 + fN l) = textOf (fP l) := by
  subst hs
  unfold textOf fP
  ext1
  simp only [ByteArray.data_extract]
  apply Array.ext'
  simp only [Array.toList_extract, List.extract_eq_take_drop]
  congr 1
  omega
theorem Ws.at {w : World} {v : Value} {rows : List WrL} (h : Ws w v rows) : WsAt w v rows := by
  rcases h.2 with ⟨rfl, h2⟩ | ⟨g, cap, cur, rfl, _, hg, hle, _, hsz, htk⟩
  · exact .inl ⟨rfl, List.eq_nil_of_length_eq_zero h2⟩
  · refine .inr ⟨g, 0, cap, rfl, fun i hi => ?_⟩
    obtain ⟨k0, k1, k2⟩ := cellsOf_get rows i hi
    have get : ∀ j x, (cellsOf rows)[j]? = some x → w.cell? ⟨g, j, none⟩ = some x := by
      intro j x hj
      rw [← htk, List.getElem?_take] at hj
      split at hj
      · simp only [World.cell?, hg]
        simpa using hj
      · cases hj
    simp only [Nat.zero_add]
    exact ⟨get _ _ k0, get _ _ k1, get _ _ k2⟩
theorem rdWs_sized (n : Nat) (l : List UInt8) (hl : l.length ≤ 1000) : SizedAll (rdWs n l) := by
  induction n generalizing l with
  | zero => intro i hi; exact absurd hi (by simp [rdWs])
  | succ n ih =>
    have h1 : ∀ x : List UInt8, x.length ≤ 1000 → (textOf (textD x)).size ≤ maxLen := by
      intro x hx
      rw [textOf_size]; unfold textD maxLen
      rw [List.length_take, List.length_drop]; omega
    have h2 := textR_le (l.drop 1)
    have h3 : (l.drop 1).length ≤ 1000 := by rw [List.length_drop]; omega
    have h4 := rdR_le l
    intro i hi
    cases i with
    | zero => exact ⟨h1 _ h3, h1 _ (by omega)⟩
    | succ i =>
      have := ih (rdR l) (by omega) i (by have : (rdWs (n + 1) l).length = n + 1 := rdWs_length _ _; rw [rdWs_length]; omega)
      exact this
theorem gW_sized (k : Nat) (p : List UInt8) (hp : p.length ≤ 255) : SizedAll (gW k p) ∧ (gW k p).length ≤ maxLen := by
  unfold gW
  split
  · refine ⟨rdWs_sized _ _ (by simp only [List.length_drop]; omega), ?_⟩
    unfold rdAll
    rw [rdWs_length]
    have := numD_one (p.drop 2)
    unfold maxLen; omega
  · exact ⟨fun i hi => absurd hi (by simp), Nat.zero_le _⟩
/-- what first answers -/
def FirstPost (l : List UInt8) (w : World) (e : Ending) (w' : World) : Prop :=
  (fB l = false ∧ e = .returned (.tuple #[zeroRec, .int .i64 0]) ∨
   fB l = true ∧ ∃ v, e = .returned (.tuple #[.agg #[.int .i64 (fK l : Nat), .int .i64 (gT (fK l) (fP l) : Nat), .int .i64 (gG (fK l) (fP l) : Nat), v], .int .i64 (7 + fN l : Nat)]) ∧ Ws w' v (gW (fK l) (fP l)) ∧ Newer w (.slice none 0 0) v) ∧ Below w.heap.size w w'
theorem fB_no1 {l : List UInt8} (h : recB (fK l) (gT (fK l) (fP l)) (gG (fK l) (fP l)) (gW (fK l) (fP l)) = false) : fB l = false := by
  unfold fB; rw [h]; simp
theorem fB_no2 {l : List UInt8} (h : frameL (fK l) (gT (fK l) (fP l)) (gG (fK l) (fP l)) (gW (fK l) (fP l)) ≠ l.take (7 + fN l)) : fB l = false := by
  unfold fB; rw [decide_eq_false h]; simp
theorem fB_yes {l : List UInt8} (h3 : 3 ≤ l.length) (h7 : 7 + fN l ≤ l.length) (hr : recB (fK l) (gT (fK l) (fP l)) (gG (fK l) (fP l)) (gW (fK l) (fP l)) = true) (h : frameL (fK l) (gT (fK l) (fP l)) (gG (fK l) (fP l)) (gW (fK l) (fP l)) = l.take (7 + fN l)) : fB l = true := by
  unfold fB; rw [hr, decide_eq_true h, decide_eq_true h3, decide_eq_true h7]; rfl
theorem list_beq (a b : List UInt8) (h : a ≠ b) : (a == b) = false := by simpa using h
set_option maxHeartbeats 1000000 in
set_option maxRecDepth 100000 in
theorem first_whole (l : List UInt8) (w : World) (hl : l.length ≤ 140737488355328) (h : 3 ≤ l.length) (h2 : 7 + fN l ≤ l.length) :
    Calls Try.prog 53 #[.string (textOf l)] w fun e w' => FirstPost l w e w' := by
  obtain ⟨s, h1, hs, hz, hm, g1, g2, b1, b2⟩ := first_facts l hl h
  have HP : Hid (s.extract 3 (3 + fN l) = textOf (fP l)) := fP_text l s hs
  have HX : Hid (∀ m : Nat, m = 7 + fN l → s.extract 0 m = textOf (l.take (7 + fN l))) := fun m hmm => by rw [hs, hmm]; exact text_take l _ _ (by omega)
  have hfp : (fP l).length ≤ 255 := by
    unfold fP; rw [List.length_take]; omega
  have HB1 : Hid (recB (fK l) (gT (fK l) (fP l)) (gG (fK l) (fP l)) (gW (fK l) (fP l)) = true → frameL (fK l) (gT (fK l) (fP l)) (gG (fK l) (fP l)) (gW (fK l) (fP l)) = l.take (7 + fN l) → fB l = true) := fun a b => fB_yes h h2 a b
  rw [← hs]
  have h3 : 7 + fN l ≤ s.size := by omega
  obtain ⟨n, hn⟩ : ∃ n, n = fN l := ⟨_, rfl⟩
  have HNN : Hid (n = fN l) := hn
  rw [← hn] at g2 b1 h3 HP
  clear hs hz h2 hn
  go_enter Try.func53, Try.ntmps53
  have hA := RB_new w 0 0 0 (.slice none 0 0)
  have hbA := box_below w (.cells #[.int .i64 0, .int .i64 0, .int .i64 0, .slice none 0 0] 32)
  have hwA : w.heap.size < (w.alloc (.cells #[.int .i64 0, .int .i64 0, .int .i64 0, .slice none 0 0] 32)).heap.size := by simp
  go_upto_region 6 with fail
  generalize w.alloc (.cells #[.int .i64 0, .int .i64 0, .int .i64 0, .slice none 0 0] 32) = WA at *
  obtain ⟨m, hm4, HM⟩ : ∃ m : Nat, (4 : Int) ≤ (m : Int) ∧ Hid (3 + (n : Int) + 4 = (m : Int)) := ⟨n + 7, by omega, by show _ = _; omega⟩
  rw [HM.out]
  have hmz : (m : Int) ≤ (s.size : Int) := by have := HM.out; omega
  have hsl : ∀ wx : World, (Instr.slice 9 (.string s) (some (.int .i64 3)) (some (.int .i64 ((m : Int) - 4))) none).run Try.prog wx = .ok (.string (textOf (fP l))) wx := by
    intro wx
    have hmm := HM.out
    rw [run_slice_string (P := Try.prog) wx 9 s .i64 .i64 3 ((m : Int) - 4) Try.underlying9 (by omega) (by omega) (by omega)]
    rw [show (3 : Int).toNat = 3 by rfl, show ((m : Int) - 4).toNat = 3 + n by omega, HP.out]
  have hw5 : IntKind.i64.wrap ((m : Int) - 4) = (m : Int) - 4 := by have := HM.out; rw [IntKind.wrap_i64]; omega
  have hix : ∀ wx : World, (Instr.index 9 (.string s) (.int .i64 1)).run Try.prog wx = .ok (.int .u8 (fK l : Nat)) wx := by
    intro wx
    rw [run_index_string (P := Try.prog) wx 9 s .i64 1 Try.underlying9, dif_pos (by omega)]
    rw [← g1]; rfl
  have hwr : IntKind.i64.wrap ((fK l : Nat) : Int) = ((fK l : Nat) : Int) := by rw [IntKind.wrap_i64]; omega
  go_cut [5] (fun q wc => Boxed WA (fK l) (gT (fK l) (fP l) : Nat) (gG (fK l) (fP l) : Nat) (gW (fK l) (fP l)) q wc)
  case first =>
    go_region_held3 (fun _ => True) (trivial) ((go_at_call 63; go_must (refine (guess_any (fK l) (fP l) _ hfp).mono ?_; rintro e w1 ⟨v, rfl, hws, hnew, hb1⟩; obtain ⟨va, vc, hv⟩ := hws.form; subst hv; obtain ⟨hcx, hfx⟩ := bcell hb1)))
    all_goals (go_wp2_with fail; go_meet)
    · exact cutA hws hnew hb1
    · exact cutB rfl hws hnew hb1
    · exact cutB rfl hws hnew hb1
  case rest =>
    obtain ⟨r, v, rfl, hRB, hr, hws, hx, hbc⟩ := hcut
    obtain ⟨hsa, hml⟩ := gW_sized (fK l) (fP l) hfp
    have hE := fEncode_any (fK l) (gT (fK l) (fP l) : Nat) (gG (fK l) (fP l) : Nat) v (gW (fK l) (fP l)) wc hws.at hsa hml
    unfold recV at hE
    obtain ⟨q0, q1, q2, q3⟩ := hRB.cells
    obtain ⟨va, vc, rfl⟩ := hws.form
    have hAc : RB wc w.heap.size 0 0 0 (.slice none 0 0) := hA.kept (hbc.block _ hwA)
    have hBc : Below w.heap.size w wc := hbA.trans (hbc.mono (Nat.le_of_lt hwA))
    have hrw : r ≠ w.heap.size := by omega
    clear hsl hw5 hix hwr g1 g2
    go_wp2_with fail
    refine hE.mono ?_
    rintro e w3 ⟨rfl, hb3⟩
    have hA3 : RB w3 w.heap.size 0 0 0 (.slice none 0 0) := hAc.kept (hb3.block _ hAc.lt)
    have hR3 := hRB.kept (hb3.block _ hRB.lt)
    have hB3 : Below w.heap.size w w3 := hBc.trans (hb3.mono hBc.size)
    have hws3 : Ws w3 _ (gW (fK l) (fP l)) := hws.kept fun x hxx => hb3.block x (World.ownsRow.lt hws x hxx).2
    obtain ⟨q0, q1, q2, q3⟩ := hR3.cells
    obtain ⟨e0, e1, e2, e3⟩ := hA3.cells
    have k0 := hA3.frozen 0
    have k1 := hA3.frozen 1
    have k2 := hA3.frozen 2
    have k3 := hA3.frozen 3
    have hmN : m = 7 + fN l := by have h1 := HM.out; have h2 := HNN.out; omega
    have HX2 : Hid (s.extract 0 m = textOf (l.take (7 + fN l))) := HX.out m hmN
    have hmz2 : m ≤ s.size := by omega
    have HMN : Hid (m = 7 + fN l) := hmN
    clear hmN
    cases hrec : recB (fK l) (gT (fK l) (fP l) : Nat) (gG (fK l) (fP l) : Nat) (gW (fK l) (fP l))
    · have hf : fB l = false := fB_no1 hrec
      have s1 : encS (fK l) (gT (fK l) (fP l) : Nat) (gG (fK l) (fP l) : Nat) (gW (fK l) (fP l)) = ⟨#[]⟩ := by unfold encS; rw [hrec]; rfl
      have s2 : encE (fK l) (gT (fK l) (fP l) : Nat) (gG (fK l) (fP l) : Nat) (gW (fK l) (fP l)) = 1 := by unfold encE; rw [hrec]; rfl
      rw [s1, s2]
      clear s1 s2 hrec hE
      have HF : Hid (fB l = false) := hf
      clear hf
      go_wp2_with fail
      exact bodyPost_ret (v := .tuple #[.agg #[.int .i64 0, .int .i64 0, .int .i64 0, .slice none 0 0], .int .i64 0]) (by simp [results, Try.results53, go_sem, e0, e1, e2, e3]) rfl ⟨.inl ⟨HF.out, rfl⟩, end4 hB3 (Nat.le_refl _) _ _ _ _⟩
    · have s1 : encS (fK l) (gT (fK l) (fP l) : Nat) (gG (fK l) (fP l) : Nat) (gW (fK l) (fP l)) = textOf (frameL (fK l) (gT (fK l) (fP l)) (gG (fK l) (fP l)) (gW (fK l) (fP l))) := by unfold encS; rw [hrec]; rfl
      have s2 : encE (fK l) (gT (fK l) (fP l) : Nat) (gG (fK l) (fP l) : Nat) (gW (fK l) (fP l)) = 0 := by unfold encE; rw [hrec]; rfl
      rw [s1, s2]
      clear s1 s2 hE
      have hlists : ((textOf (frameL (fK l) (gT (fK l) (fP l)) (gG (fK l) (fP l)) (gW (fK l) (fP l)))).toList == (s.extract 0 m).toList) = (frameL (fK l) (gT (fK l) (fP l)) (gG (fK l) (fP l)) (gW (fK l) (fP l)) == l.take (7 + fN l)) := by
        rw [HX2.out, ByteArray.toList_eq, ByteArray.toList_eq]; rfl
      by_cases hfr : frameL (fK l) (gT (fK l) (fP l)) (gG (fK l) (fP l)) (gW (fK l) (fP l)) = l.take (7 + fN l)
      · have HF : Hid (fB l = true) := HB1.out hrec hfr
        rw [beq_iff_eq.2 hfr] at hlists
        generalize textOf (frameL (fK l) (gT (fK l) (fP l)) (gG (fK l) (fP l)) (gW (fK l) (fP l))) = fr at *
        have hx2 : ∀ x, (Value.slice va (gW (fK l) (fP l)).length vc).ownBlock = some x → x ≠ w.heap.size := fun x hxx => by have := (hx x hxx).1; omega
        have hN : Newer w (.slice none 0 0) (Value.slice va (gW (fK l) (fP l)).length vc) := by
          cases ho : (Value.slice va (gW (fK l) (fP l)).length vc).ownBlock with
          | none => exact .inl ho
          | some x => exact .inr ⟨x, ho, by have := (hx x ho).1; omega⟩
        have HM2 : Hid ((m : Int) = ((7 + fN l : Nat) : Int)) := by show _ = _; have := HMN.out; omega
        clear hfr hrec hx
        go_wp2_with fail
        refine bodyPost_ret (v := .tuple #[.agg #[.int .i64 (fK l : Nat), .int .i64 (gT (fK l) (fP l) : Nat), .int .i64 (gG (fK l) (fP l) : Nat), .slice va (gW (fK l) (fP l)).length vc], .int .i64 m]) (by simp [results, Try.results53, go_sem, e0, e1, e2, e3]) rfl ⟨.inr ⟨HF.out, _, by rw [HM2.out], ?_, hN⟩, end4 hB3 (Nat.le_refl _) _ _ _ _⟩
        refine hws3.kept fun x hxx => ?_
        have := hx2 x hxx
        rw [Below.heap_setCell _ _ _ _ this, Below.heap_setCell _ _ _ _ this, Below.heap_setCell _ _ _ _ this, Below.heap_setCell _ _ _ _ this]
      · have HF : Hid (fB l = false) := fB_no2 hfr
        rw [list_beq _ _ hfr] at hlists
        generalize textOf (frameL (fK l) (gT (fK l) (fP l)) (gG (fK l) (fP l)) (gW (fK l) (fP l))) = fr at *
        clear hfr hrec
        go_wp2_with fail
        exact bodyPost_ret (v := .tuple #[.agg #[.int .i64 0, .int .i64 0, .int .i64 0, .slice none 0 0], .int .i64 0]) (by simp [results, Try.results53, go_sem, e0, e1, e2, e3]) rfl ⟨.inl ⟨HF.out, rfl⟩, end4 hB3 (Nat.le_refl _) _ _ _ _⟩
theorem fB_short {l : List UInt8} (h : l.length < 3) : fB l = false := by
  unfold fB; rw [decide_eq_false (by omega)]; rfl
theorem fB_cut {l : List UInt8} (h : l.length < 7 + fN l) : fB l = false := by
  unfold fB; rw [decide_eq_false (show ¬ 7 + fN l ≤ l.length by omega)]; simp
theorem first_any (l : List UInt8) (w : World) (hl : l.length ≤ 140737488355328) :
    Calls Try.prog 53 #[.string (textOf l)] w fun e w' => FirstPost l w e w' := by
  by_cases h3 : l.length < 3
  · refine (first_short l w hl h3).mono ?_
    rintro e w' ⟨rfl, hb⟩
    exact ⟨.inl ⟨fB_short h3, rfl⟩, hb⟩
  · by_cases h7 : l.length < 7 + fN l
    · refine (first_cut l w hl (by omega) h7).mono ?_
      rintro e w' ⟨rfl, hb⟩
      exact ⟨.inl ⟨fB_cut h7, rfl⟩, hb⟩
    · exact first_whole l w hl (by omega) (by omega)
end Go.Proofs.Ytneepapppbchnaa
