/- The document's own Encode. -/
import Derived.Test.YtneepapppbchnaaRef2
namespace Go.Proofs.Ytneepapppbchnaa
open Go.RowKit Go.BigFrame
set_option linter.unusedVariables false

theorem wr_text (l : List UInt8) (r : WrL) (d : ByteArray) (hd : d = textOf [if r.dead then 1 else 0]) :
    textOf l ++ d ++ textOf (numL r.key.size 1) ++ r.key ++ textOf (numL r.value.size 1) ++ r.value = textOf (l ++ wrBytes r) := by
  have e1 := text_self r.key
  have e2 := text_self r.value
  rw [hd]
  unfold wrBytes
  generalize hk : r.key.size = n1 at *
  generalize hv : r.value.size = n2 at *
  rw [e1, e2]
  simp only [textOf_append, List.append_assoc]
  rfl
/-- Number, for the calm walk -/
theorem number_calm {W : World} (x : BelowW W) (v n : Nat) (hv : v < 9223372036854775808) (hn : n ≤ 8) :
    Calls Try.prog 43 #[.int .i64 v, .int .i64 n] x.w fun e w'' => e = .returned (.string (textOf (numL v n))) ∧ ∃ y : BelowW W, w'' = y.w :=
  calm_of x (number_any v n x.w hv hn)

set_option maxHeartbeats 400000 in
set_option maxRecDepth 100000 in
theorem rEncode_no (k t g : Int) (v : Value) (ws : List WrL) (w : World) (hv : WsAt w v ws) (hs : SizedAll ws) (hm : ws.length ≤ maxLen) (hr : recB k t g ws = false) :
    Calls Try.prog 25 #[recV k t g v] w fun e w' => e = .returned (.tuple #[.string ⟨#[]⟩, .int .i64 1]) ∧ Below w.heap.size w w' := by
  obtain ⟨a, cap, rfl⟩ := hv.form
  have HI := recorded_any k t g _ ws _ (hv.below (box_below w (.cells #[.int .i64 k, .int .i64 t, .int .i64 g, .slice a ws.length cap] 32))) hs hm
  rw [hr] at HI
  unfold recV at *
  go_enter Try.func25, Try.ntmps25
  go_wp2_with fail
  refine HI.mono ?_
  rintro e w1 ⟨rfl, hb1⟩
  go_wp2_with fail
  go_ret2
  exact ⟨rfl, box_then hb1⟩

set_option maxHeartbeats 1000000 in
set_option maxRecDepth 100000 in
theorem rEncode_1 (k t g : Nat) (b off cap : Nat) (ws : List WrL) (w : World) (hc : CellsAt w b off ws) (hs : SizedAll ws) (hm : ws.length ≤ maxLen) (hr : recB k t g ws = true)
    (h1 : 1 ≤ k) (h6 : k ≤ 6) (ht : t ≤ 65535) (hg : g ≤ 65535) (hp : 0 < ws.length) (hsh : Short ws) (hk6 : ((k : Int) != 6) = true) (hk4 : ((k : Int) == 4) = false)
    (HP : Hid (payL k t g ws = numL t 2 ++ numL ws.length 1 ++ ws.flatMap wrBytes)) :
    Calls Try.prog 25 #[recV k t g (.slice (some ⟨b, off, none⟩) ws.length cap)] w fun e w' => e = .returned (.tuple #[.string (textOf (frameL k t g ws)), .int .i64 0]) ∧ Below w.heap.size w w' := by
  have hv : WsAt w (.slice (some ⟨b, off, none⟩) ws.length cap) ws := .inr ⟨b, off, cap, rfl, hc⟩
  obtain ⟨W, HW, hvW, hBW, hlt, x0, x1, x2, x3⟩ := rec_head k t g (some ⟨b, off, none⟩) cap ws w hv hs hm
  have hcW : CellsAt W b off ws := by rw [HW]; exact hc.below (box_below _ _)
  have HI := recorded_any k t g _ ws _ hvW hs hm
  rw [hr] at HI
  have hts : ∀ v n, (textOf (numL v n)).size = n := fun v n => by rw [textOf_size, numL_length]
  obtain ⟨hl6, hsz⟩ := hsh
  unfold recV at *
  have hpi : (0 : Int) < (ws.length : Int) := by omega
  go_enter Try.func25, Try.ntmps25
  go_wp2_with fail
  rw [← HW]
  clear HW
  refine HI.mono ?_
  rintro e w1 ⟨rfl, hb1⟩
  clear HI
  have y0 := (hb1.cell hlt).trans x0
  have y1 := (hb1.cell hlt).trans x1
  have y3 := (hb1.cell hlt).trans x3
  have hlt1 : w.heap.size < w1.heap.size := Nat.lt_of_lt_of_le hlt hb1.size
  have hB1 : Below w.heap.size w w1 := hBW.trans (hb1.mono (Nat.le_of_lt hlt))
  have hc1 := hcW.below hb1
  clear x0 x1 x2 x3 hb1 hcW hvW hBW hc hv
  go_wp2_with fail
  refine (number_any t 2 _ (by omega) (by omega)).mono ?_
  rintro e w2 ⟨rfl, hb2⟩
  have z0 := (hb2.cell hlt1).trans y0
  have z3 := (hb2.cell hlt1).trans y3
  have hlt2 : w.heap.size < w2.heap.size := Nat.lt_of_lt_of_le hlt1 hb2.size
  have hB2 : Below w.heap.size w w2 := hB1.trans (hb2.mono (Nat.le_of_lt hlt1))
  have hc2 := hc1.below hb2
  clear y0 y1 y3 hb2 hc1 hB1
  go_wp2_with fail
  refine (number_any ws.length 1 _ (by omega) (by omega)).mono ?_
  rintro e w3 ⟨rfl, hb3⟩
  have a0 := (hb3.cell hlt2).trans z0
  have a3 := (hb3.cell hlt2).trans z3
  have hlt3 : w.heap.size < w3.heap.size := Nat.lt_of_lt_of_le hlt2 hb3.size
  have hB3 : Below w.heap.size w w3 := hB2.trans (hb3.mono (Nat.le_of_lt hlt2))
  have hc3 := hc2.below hb3
  clear z0 z3 hb3 hc2 hB2
  have HPRE : Hid (textOf (numL t 2) ++ textOf (numL ws.length 1) = textOf (numL t 2 ++ numL ws.length 1)) := textOf_append _ _
  have HPL : Hid ((numL t 2 ++ numL ws.length 1).length = 3) := by
    show _ = _
    rw [List.length_append, numL_length, numL_length]
  go_wp2
  rw [HPRE.out]
  generalize numL t 2 ++ numL ws.length 1 = pre at *
  go_loopw [5, 6, 7, 8] (fun s i _ _ wr => ∃ n : Nat, n ≤ ws.length ∧ i = .int .i64 n ∧ s = .string (textOf (pre ++ (ws.take n).flatMap wrBytes)) ∧ Below w3.heap.size w3 wr) (fun _ i _ _ _ => ws.length - (intOf i).toNat)
  case atStart => exact ⟨0, Nat.zero_le _, rfl, by simp, Below.refl _ _⟩
  case round =>
    obtain ⟨n, hn, rfl, rfl, hb⟩ := hrel
    have hfl := flat_length ws hsz n hn
    have hln : (textOf (pre ++ (ws.take n).flatMap wrBytes)).size ≤ 3 + 27 * n := by rw [textOf_size, List.length_append, HPL.out]; omega
    have r0 := (hb.cell hlt3).trans a0
    have r3 := (hb.cell hlt3).trans a3
    have hltr : w.heap.size < wr.heap.size := Nat.lt_of_lt_of_le hlt3 hb.size
    by_cases hltn : n < ws.length
    · obtain ⟨c0, c1, c2⟩ := (hc3.below hb) n hltn
      obtain ⟨hz1, hz2⟩ := hsz n hltn
      have HT : Hid ((ws.take (n + 1)).flatMap wrBytes = (ws.take n).flatMap wrBytes ++ wrBytes ws[n]) := take_flat ws n hltn
      generalize hr' : ws[n] = r at *
      clear hr'
      have HWT : ∀ d : ByteArray, d = textOf [if r.dead then 1 else 0] → Hid (textOf (pre ++ (ws.take n).flatMap wrBytes) ++ d ++ textOf (numL r.key.size 1) ++ r.key ++ textOf (numL r.value.size 1) ++ r.value = textOf (pre ++ (ws.take (n + 1)).flatMap wrBytes)) := by
        intro d hd
        show _ = _
        rw [wr_text _ r d hd, HT.out, List.append_assoc]
      have hln2 : (textOf (pre ++ (ws.take n).flatMap wrBytes)).size ≤ 200 := by omega
      generalize textOf (pre ++ (ws.take n).flatMap wrBytes) = tx at *
      clear hln hfl HT
      obtain ⟨rk, rd, rv⟩ := r
      simp only at c0 c1 c2 hz1 hz2 HWT
      cases rd
      · have W0 := BelowW.cell (cell0a wr (.string rk) (.bool false) (.string rv) 65)
        have W1 := BelowW.cell (cell1a wr (.string rk) (.bool false) (.string rv) 65)
        have W2 := BelowW.cell (cell2a wr (.string rk) (.bool false) (.string rv) 65)
        haveI := BelowW.ne (wr.alloc (.cells #[.string rk, .bool false, .string rv] 65))
        have hal : Below w3.heap.size w3 (wr.alloc (.cells #[.string rk, .bool false, .string rv] 65)) := hb.alloc hb.size _
        have HAL : ∀ x : BelowW (wr.alloc (.cells #[.string rk, .bool false, .string rv] 65)), Below w3.heap.size w3 x.w := fun x => hal.trans (x.h.mono hal.size)
        have HW0 : Hid (tx ++ ⟨#[0]⟩ ++ textOf (numL rk.size 1) ++ rk ++ textOf (numL rv.size 1) ++ rv = textOf (pre ++ (ws.take (n + 1)).flatMap wrBytes)) := HWT ⟨#[0]⟩ rfl
        clear HWT
        go_wp2
        refine wp_region_calm (by kernel_rfl) (by kernel_rfl) ?_
        repeat (go_big_quiet_step ((go_at_call 43; exact number_calm _ _ 1 (by omega) (by omega))))
        refine wpQuiet_nil ?_
        rintro _ ⟨xq, rfl⟩
        go_wp2
        go_roundw
        case rel => exact ⟨n + 1, by omega, by go_num, by rw [← HW0.out], HAL xq⟩
        case measure => simp [intOf]; omega
      · have W0 := BelowW.cell (cell0a wr (.string rk) (.bool true) (.string rv) 65)
        have W1 := BelowW.cell (cell1a wr (.string rk) (.bool true) (.string rv) 65)
        have W2 := BelowW.cell (cell2a wr (.string rk) (.bool true) (.string rv) 65)
        haveI := BelowW.ne (wr.alloc (.cells #[.string rk, .bool true, .string rv] 65))
        have hal : Below w3.heap.size w3 (wr.alloc (.cells #[.string rk, .bool true, .string rv] 65)) := hb.alloc hb.size _
        have HAL : ∀ x : BelowW (wr.alloc (.cells #[.string rk, .bool true, .string rv] 65)), Below w3.heap.size w3 x.w := fun x => hal.trans (x.h.mono hal.size)
        have HW0 : Hid (tx ++ ⟨#[1]⟩ ++ textOf (numL rk.size 1) ++ rk ++ textOf (numL rv.size 1) ++ rv = textOf (pre ++ (ws.take (n + 1)).flatMap wrBytes)) := HWT ⟨#[1]⟩ rfl
        clear HWT
        go_wp2
        refine wp_region_calm (by kernel_rfl) (by kernel_rfl) ?_
        repeat (go_big_quiet_step ((go_at_call 43; exact number_calm _ _ 1 (by omega) (by omega))))
        refine wpQuiet_nil ?_
        rintro _ ⟨xq, rfl⟩
        go_wp2
        go_roundw
        case rel => exact ⟨n + 1, by omega, by go_num, by rw [← HW0.out], HAL xq⟩
        case measure => simp [intOf]; omega
    · obtain rfl : n = ws.length := by omega
      rw [List.take_length, ← HP.out]
      have hpl := payL_length k t g ws (fun _ => ⟨hp, hl6, hsz⟩)
      have HF : Hid (frameL k t g ws = headL k t g ws ++ numL (sumOf (headL k t g ws)) 4) := rfl
      have HD : Hid (headL k t g ws = [112] ++ numL k 1 ++ (numL (payL k t g ws).length 1 ++ payL k t g ws)) := rfl
      have hhd : (headL k t g ws).length ≤ 1000 := by rw [HD.out]; simp only [List.length_append, numL_length, List.length_singleton]; omega
      have hBr : Below w.heap.size w wr := hB3.trans (hb.mono (Nat.le_of_lt hlt3))
      clear hln hfl HP
      generalize payL k t g ws = pl at *
      generalize headL k t g ws = hd at *
      go_wp2_with fail
      refine (number_any k 1 _ (by omega) (by omega)).mono ?_
      rintro e w5 ⟨rfl, hb5⟩
      have hz5 : (textOf pl).size ≤ 165 := by rw [textOf_size]; exact hpl
      go_wp2_with fail
      refine (number_any (textOf pl).size 1 _ (by omega) (by omega)).mono ?_
      rintro e w6 ⟨rfl, hb6⟩
      have HH : Hid ((⟨#[112]⟩ : ByteArray) ++ textOf (numL k 1) ++ textOf (numL (textOf pl).size 1) ++ textOf pl = textOf hd) := by
        show textOf [112] ++ _ ++ _ ++ _ = _
        rw [textOf_append, textOf_append, textOf_append, textOf_size, HD.out]
        simp only [List.append_assoc]
      go_wp2_with fail
      rw [HH.out]
      refine (rsum_any (textOf hd) _ (by rw [textOf_size]; unfold maxLen; omega)).mono ?_
      rintro e w7 ⟨rfl, rfl⟩
      have hsum := sumOf_lt (textOf hd).data.toList
      have HS : Hid (textOf hd ++ textOf (numL (sumOf (textOf hd).data.toList) 4) = textOf (frameL k t g ws)) := by
        show _ = _
        rw [textOf_append, HF.out]; rfl
      have hz7 : (textOf hd).size ≤ 1000 := by rw [textOf_size]; omega
      generalize sumOf (textOf hd).data.toList = sm at *
      go_wp2_with fail
      refine (number_any sm 4 _ (by omega) (by omega)).mono ?_
      rintro e w8 ⟨rfl, hb8⟩
      go_wp2_with fail
      rw [HS.out]
      go_ret2
      have hx5 : w.heap.size ≤ wr.heap.size := Nat.le_of_lt hltr
      have hx6 : w.heap.size ≤ w5.heap.size := Nat.le_trans hx5 hb5.size
      have hx7 : w.heap.size ≤ _ := Nat.le_trans hx6 hb6.size
      exact ⟨rfl, hBr.trans ((hb5.mono hx5).trans ((hb6.mono hx6).trans (hb8.mono hx7)))⟩
set_option maxHeartbeats 1000000 in
set_option maxRecDepth 100000 in
theorem rEncode_3 (k t g : Nat) (a : Option Addr) (cap : Nat) (ws : List WrL) (w : World) (hv : WsAt w (.slice a ws.length cap) ws) (hs : SizedAll ws) (hr : recB k t g ws = true)
    (h1 : 1 ≤ k) (h6 : k ≤ 6) (ht : t ≤ 65535) (hg : g ≤ 65535) (hp : ws.length = 0) (hno : ¬ (k = 1 ∨ k = 2 ∨ k = 5)) (hk6 : ((k : Int) != 6) = true) (hk4 : ((k : Int) == 4) = false)
    (HP : Hid (payL k t g ws = numL t 2)) :
    Calls Try.prog 25 #[recV k t g (.slice a ws.length cap)] w fun e w' => e = .returned (.tuple #[.string (textOf (frameL k t g ws)), .int .i64 0]) ∧ Below w.heap.size w w' := by
  have hm : ws.length ≤ maxLen := by rw [hp]; exact Nat.zero_le _
  have hz : ws.length < 1 := by omega
  obtain ⟨W, HW, hvW, hBW, hlt, x0, x1, x2, x3⟩ := rec_head k t g a cap ws w hv hs hm
  have HI := recorded_any k t g _ ws _ hvW hs hm
  rw [hr] at HI
  have hts : ∀ v n, (textOf (numL v n)).size = n := fun v n => by rw [textOf_size, numL_length]
  have hpl := payL_length k t g ws (fun h => absurd h hno)
  have HF : Hid (frameL k t g ws = headL k t g ws ++ numL (sumOf (headL k t g ws)) 4) := rfl
  have HD : Hid (headL k t g ws = [112] ++ numL k 1 ++ (numL (payL k t g ws).length 1 ++ payL k t g ws)) := rfl
  have hhd : (headL k t g ws).length ≤ 1000 := by rw [HD.out]; simp only [List.length_append, numL_length, List.length_singleton]; omega
  clear hp
  unfold recV at *
  go_enter Try.func25, Try.ntmps25
  go_wp2_with fail
  rw [← HW]
  clear HW
  refine HI.mono ?_
  rintro e w1 ⟨rfl, hb1⟩
  clear HI
  have y0 := (hb1.cell hlt).trans x0
  have y1 := (hb1.cell hlt).trans x1
  have y2 := (hb1.cell hlt).trans x2
  have y3 := (hb1.cell hlt).trans x3
  have hlt1 : w.heap.size < w1.heap.size := Nat.lt_of_lt_of_le hlt hb1.size
  have hB1 : Below w.heap.size w w1 := hBW.trans (hb1.mono (Nat.le_of_lt hlt))
  clear x0 x1 x2 x3 hb1 hvW hBW hv
  go_wp2_with fail
  refine (number_any t 2 _ (by omega) (by omega)).mono ?_
  rintro e WB ⟨rfl, hb2⟩
  have b0 := (hb2.cell hlt1).trans y0
  have b3 := (hb2.cell hlt1).trans y3
  have hltB : w.heap.size < WB.heap.size := Nat.lt_of_lt_of_le hlt1 hb2.size
  have hBB : Below w.heap.size w WB := hB1.trans (hb2.mono (Nat.le_of_lt hlt1))
  clear y0 y1 y2 y3 hb2 hB1
  go_wp2
  rw [← HP.out]
  clear HP
  generalize payL k t g ws = pl at *
  generalize headL k t g ws = hd at *
  go_loopw [5, 6, 7, 8] (fun s i _ _ wr => s = .string (textOf pl) ∧ i = .int .i64 0 ∧ Below WB.heap.size WB wr) (fun _ _ _ _ _ => 0)
  case atStart => exact ⟨rfl, rfl, Below.refl _ _⟩
  case round =>
    obtain ⟨rfl, rfl, hb⟩ := hrel
    have r0 := (hb.cell hltB).trans b0
    have r3 := (hb.cell hltB).trans b3
    have hltr : w.heap.size < wr.heap.size := Nat.lt_of_lt_of_le hltB hb.size
    have hBr : Below w.heap.size w wr := hBB.trans (hb.mono (Nat.le_of_lt hltB))
    go_wp2_with fail
    refine (number_any k 1 _ (by omega) (by omega)).mono ?_
    rintro e w5 ⟨rfl, hb5⟩
    have hz5 : (textOf pl).size ≤ 165 := by rw [textOf_size]; exact hpl
    go_wp2_with fail
    refine (number_any (textOf pl).size 1 _ (by omega) (by omega)).mono ?_
    rintro e w6 ⟨rfl, hb6⟩
    have HH : Hid ((⟨#[112]⟩ : ByteArray) ++ textOf (numL k 1) ++ textOf (numL (textOf pl).size 1) ++ textOf pl = textOf hd) := by
      show textOf [112] ++ _ ++ _ ++ _ = _
      rw [textOf_append, textOf_append, textOf_append, textOf_size, HD.out]
      simp only [List.append_assoc]
    go_wp2_with fail
    rw [HH.out]
    refine (rsum_any (textOf hd) _ (by rw [textOf_size]; unfold maxLen; omega)).mono ?_
    rintro e w7 ⟨rfl, rfl⟩
    have hsum := sumOf_lt (textOf hd).data.toList
    have HS : Hid (textOf hd ++ textOf (numL (sumOf (textOf hd).data.toList) 4) = textOf (frameL k t g ws)) := by
      show _ = _
      rw [textOf_append, HF.out]; rfl
    have hz7 : (textOf hd).size ≤ 1000 := by rw [textOf_size]; omega
    generalize sumOf (textOf hd).data.toList = sm at *
    go_wp2_with fail
    refine (number_any sm 4 _ (by omega) (by omega)).mono ?_
    rintro e w8 ⟨rfl, hb8⟩
    go_wp2_with fail
    rw [HS.out]
    go_ret2
    have hx5 : w.heap.size ≤ wr.heap.size := Nat.le_of_lt hltr
    have hx6 : w.heap.size ≤ w5.heap.size := Nat.le_trans hx5 hb5.size
    have hx7 : w.heap.size ≤ _ := Nat.le_trans hx6 hb6.size
    exact ⟨rfl, hBr.trans ((hb5.mono hx5).trans ((hb6.mono hx6).trans (hb8.mono hx7)))⟩
set_option maxHeartbeats 1000000 in
set_option maxRecDepth 100000 in
theorem rEncode_4 (k t g : Nat) (a : Option Addr) (cap : Nat) (ws : List WrL) (w : World) (hv : WsAt w (.slice a ws.length cap) ws) (hs : SizedAll ws) (hr : recB k t g ws = true)
    (h1 : 1 ≤ k) (h6 : k ≤ 6) (ht : t ≤ 65535) (hg : g ≤ 65535) (hp : ws.length = 0) (hno : ¬ (k = 1 ∨ k = 2 ∨ k = 5)) (hk6 : ((k : Int) != 6) = true) (hk4 : ((k : Int) == 4) = true)
    (HP : Hid (payL k t g ws = numL t 2 ++ numL g 2)) :
    Calls Try.prog 25 #[recV k t g (.slice a ws.length cap)] w fun e w' => e = .returned (.tuple #[.string (textOf (frameL k t g ws)), .int .i64 0]) ∧ Below w.heap.size w w' := by
  have hm : ws.length ≤ maxLen := by rw [hp]; exact Nat.zero_le _
  have hz : ws.length < 1 := by omega
  obtain ⟨W, HW, hvW, hBW, hlt, x0, x1, x2, x3⟩ := rec_head k t g a cap ws w hv hs hm
  have HI := recorded_any k t g _ ws _ hvW hs hm
  rw [hr] at HI
  have hts : ∀ v n, (textOf (numL v n)).size = n := fun v n => by rw [textOf_size, numL_length]
  have hpl := payL_length k t g ws (fun h => absurd h hno)
  have HF : Hid (frameL k t g ws = headL k t g ws ++ numL (sumOf (headL k t g ws)) 4) := rfl
  have HD : Hid (headL k t g ws = [112] ++ numL k 1 ++ (numL (payL k t g ws).length 1 ++ payL k t g ws)) := rfl
  have hhd : (headL k t g ws).length ≤ 1000 := by rw [HD.out]; simp only [List.length_append, numL_length, List.length_singleton]; omega
  clear hp
  unfold recV at *
  go_enter Try.func25, Try.ntmps25
  go_wp2_with fail
  rw [← HW]
  clear HW
  refine HI.mono ?_
  rintro e w1 ⟨rfl, hb1⟩
  clear HI
  have y0 := (hb1.cell hlt).trans x0
  have y1 := (hb1.cell hlt).trans x1
  have y2 := (hb1.cell hlt).trans x2
  have y3 := (hb1.cell hlt).trans x3
  have hlt1 : w.heap.size < w1.heap.size := Nat.lt_of_lt_of_le hlt hb1.size
  have hB1 : Below w.heap.size w w1 := hBW.trans (hb1.mono (Nat.le_of_lt hlt))
  clear x0 x1 x2 x3 hb1 hvW hBW hv
  go_wp2_with fail
  refine (number_any t 2 _ (by omega) (by omega)).mono ?_
  rintro e w2 ⟨rfl, hb2⟩
  have z0 := (hb2.cell hlt1).trans y0
  have z2 := (hb2.cell hlt1).trans y2
  have z3 := (hb2.cell hlt1).trans y3
  have hlt2 : w.heap.size < w2.heap.size := Nat.lt_of_lt_of_le hlt1 hb2.size
  have hB2 : Below w.heap.size w w2 := hB1.trans (hb2.mono (Nat.le_of_lt hlt1))
  clear y0 y1 y2 y3 hb2 hB1
  go_wp2_with fail
  refine (number_any g 2 _ (by omega) (by omega)).mono ?_
  rintro e WB ⟨rfl, hb3⟩
  have b0 := (hb3.cell hlt2).trans z0
  have b3 := (hb3.cell hlt2).trans z3
  have hltB : w.heap.size < WB.heap.size := Nat.lt_of_lt_of_le hlt2 hb3.size
  have hBB : Below w.heap.size w WB := hB2.trans (hb3.mono (Nat.le_of_lt hlt2))
  clear z0 z2 z3 hb3 hB2
  have HTX : Hid (textOf (numL t 2) ++ textOf (numL g 2) = textOf (payL k t g ws)) := by
    show _ = _
    rw [HP.out, textOf_append]
  go_wp2
  rw [HTX.out]
  clear HP HTX
  generalize payL k t g ws = pl at *
  generalize headL k t g ws = hd at *
  go_loopw [5, 6, 7, 8] (fun s i _ _ wr => s = .string (textOf pl) ∧ i = .int .i64 0 ∧ Below WB.heap.size WB wr) (fun _ _ _ _ _ => 0)
  case atStart => exact ⟨rfl, rfl, Below.refl _ _⟩
  case round =>
    obtain ⟨rfl, rfl, hb⟩ := hrel
    have r0 := (hb.cell hltB).trans b0
    have r3 := (hb.cell hltB).trans b3
    have hltr : w.heap.size < wr.heap.size := Nat.lt_of_lt_of_le hltB hb.size
    have hBr : Below w.heap.size w wr := hBB.trans (hb.mono (Nat.le_of_lt hltB))
    go_wp2_with fail
    refine (number_any k 1 _ (by omega) (by omega)).mono ?_
    rintro e w5 ⟨rfl, hb5⟩
    have hz5 : (textOf pl).size ≤ 165 := by rw [textOf_size]; exact hpl
    go_wp2_with fail
    refine (number_any (textOf pl).size 1 _ (by omega) (by omega)).mono ?_
    rintro e w6 ⟨rfl, hb6⟩
    have HH : Hid ((⟨#[112]⟩ : ByteArray) ++ textOf (numL k 1) ++ textOf (numL (textOf pl).size 1) ++ textOf pl = textOf hd) := by
      show textOf [112] ++ _ ++ _ ++ _ = _
      rw [textOf_append, textOf_append, textOf_append, textOf_size, HD.out]
      simp only [List.append_assoc]
    go_wp2_with fail
    rw [HH.out]
    refine (rsum_any (textOf hd) _ (by rw [textOf_size]; unfold maxLen; omega)).mono ?_
    rintro e w7 ⟨rfl, rfl⟩
    have hsum := sumOf_lt (textOf hd).data.toList
    have HS : Hid (textOf hd ++ textOf (numL (sumOf (textOf hd).data.toList) 4) = textOf (frameL k t g ws)) := by
      show _ = _
      rw [textOf_append, HF.out]; rfl
    have hz7 : (textOf hd).size ≤ 1000 := by rw [textOf_size]; omega
    generalize sumOf (textOf hd).data.toList = sm at *
    go_wp2_with fail
    refine (number_any sm 4 _ (by omega) (by omega)).mono ?_
    rintro e w8 ⟨rfl, hb8⟩
    go_wp2_with fail
    rw [HS.out]
    go_ret2
    have hx5 : w.heap.size ≤ wr.heap.size := Nat.le_of_lt hltr
    have hx6 : w.heap.size ≤ w5.heap.size := Nat.le_trans hx5 hb5.size
    have hx7 : w.heap.size ≤ _ := Nat.le_trans hx6 hb6.size
    exact ⟨rfl, hBr.trans ((hb5.mono hx5).trans ((hb6.mono hx6).trans (hb8.mono hx7)))⟩
set_option maxHeartbeats 1000000 in
set_option maxRecDepth 100000 in
theorem rEncode_6 (k t g : Nat) (a : Option Addr) (cap : Nat) (ws : List WrL) (w : World) (hv : WsAt w (.slice a ws.length cap) ws) (hs : SizedAll ws) (hr : recB k t g ws = true)
    (h1 : 1 ≤ k) (h6 : k ≤ 6) (ht : t ≤ 65535) (hg : g ≤ 65535) (hp : ws.length = 0) (hno : ¬ (k = 1 ∨ k = 2 ∨ k = 5)) (hk6 : ((k : Int) != 6) = false) (hk4 : ((k : Int) == 4) = false)
    (HP : Hid (payL k t g ws = [])) :
    Calls Try.prog 25 #[recV k t g (.slice a ws.length cap)] w fun e w' => e = .returned (.tuple #[.string (textOf (frameL k t g ws)), .int .i64 0]) ∧ Below w.heap.size w w' := by
  have hm : ws.length ≤ maxLen := by rw [hp]; exact Nat.zero_le _
  have hz : ws.length < 1 := by omega
  obtain ⟨W, HW, hvW, hBW, hlt, x0, x1, x2, x3⟩ := rec_head k t g a cap ws w hv hs hm
  have HI := recorded_any k t g _ ws _ hvW hs hm
  rw [hr] at HI
  have hts : ∀ v n, (textOf (numL v n)).size = n := fun v n => by rw [textOf_size, numL_length]
  have hpl := payL_length k t g ws (fun h => absurd h hno)
  have HF : Hid (frameL k t g ws = headL k t g ws ++ numL (sumOf (headL k t g ws)) 4) := rfl
  have HD : Hid (headL k t g ws = [112] ++ numL k 1 ++ (numL (payL k t g ws).length 1 ++ payL k t g ws)) := rfl
  have hhd : (headL k t g ws).length ≤ 1000 := by rw [HD.out]; simp only [List.length_append, numL_length, List.length_singleton]; omega
  clear hp
  unfold recV at *
  go_enter Try.func25, Try.ntmps25
  go_wp2_with fail
  rw [← HW]
  clear HW
  refine HI.mono ?_
  rintro e w1 ⟨rfl, hb1⟩
  clear HI
  have y0 := (hb1.cell hlt).trans x0
  have y1 := (hb1.cell hlt).trans x1
  have y2 := (hb1.cell hlt).trans x2
  have y3 := (hb1.cell hlt).trans x3
  have hlt1 : w.heap.size < w1.heap.size := Nat.lt_of_lt_of_le hlt hb1.size
  have hB1 : Below w.heap.size w w1 := hBW.trans (hb1.mono (Nat.le_of_lt hlt))
  clear x0 x1 x2 x3 hb1 hvW hBW hv
  obtain ⟨WB, HWB⟩ : ∃ WB, WB = w1 := ⟨_, rfl⟩
  subst HWB
  have b0 := y0
  have b3 := y3
  have hltB := hlt1
  have hBB := hB1
  clear y0 y1 y2 y3 hB1
  have HTX : Hid ((⟨#[]⟩ : ByteArray) = textOf (payL k t g ws)) := by
    show _ = _
    rw [HP.out]; rfl
  have HST : Hid (Value.string ⟨#[]⟩ = .string (textOf (payL k t g ws))) := by
    show _ = _
    rw [← HTX.out]
  go_wp2
  clear HP HTX
  generalize payL k t g ws = pl at *
  generalize headL k t g ws = hd at *
  go_loopw [5, 6, 7, 8] (fun s i _ _ wr => s = .string (textOf pl) ∧ i = .int .i64 0 ∧ Below WB.heap.size WB wr) (fun _ _ _ _ _ => 0)
  case atStart => exact ⟨HST.out, rfl, Below.refl _ _⟩
  case round =>
    obtain ⟨rfl, rfl, hb⟩ := hrel
    have r0 := (hb.cell hltB).trans b0
    have r3 := (hb.cell hltB).trans b3
    have hltr : w.heap.size < wr.heap.size := Nat.lt_of_lt_of_le hltB hb.size
    have hBr : Below w.heap.size w wr := hBB.trans (hb.mono (Nat.le_of_lt hltB))
    go_wp2_with fail
    refine (number_any k 1 _ (by omega) (by omega)).mono ?_
    rintro e w5 ⟨rfl, hb5⟩
    have hz5 : (textOf pl).size ≤ 165 := by rw [textOf_size]; exact hpl
    go_wp2_with fail
    refine (number_any (textOf pl).size 1 _ (by omega) (by omega)).mono ?_
    rintro e w6 ⟨rfl, hb6⟩
    have HH : Hid ((⟨#[112]⟩ : ByteArray) ++ textOf (numL k 1) ++ textOf (numL (textOf pl).size 1) ++ textOf pl = textOf hd) := by
      show textOf [112] ++ _ ++ _ ++ _ = _
      rw [textOf_append, textOf_append, textOf_append, textOf_size, HD.out]
      simp only [List.append_assoc]
    go_wp2_with fail
    rw [HH.out]
    refine (rsum_any (textOf hd) _ (by rw [textOf_size]; unfold maxLen; omega)).mono ?_
    rintro e w7 ⟨rfl, rfl⟩
    have hsum := sumOf_lt (textOf hd).data.toList
    have HS : Hid (textOf hd ++ textOf (numL (sumOf (textOf hd).data.toList) 4) = textOf (frameL k t g ws)) := by
      show _ = _
      rw [textOf_append, HF.out]; rfl
    have hz7 : (textOf hd).size ≤ 1000 := by rw [textOf_size]; omega
    generalize sumOf (textOf hd).data.toList = sm at *
    go_wp2_with fail
    refine (number_any sm 4 _ (by omega) (by omega)).mono ?_
    rintro e w8 ⟨rfl, hb8⟩
    go_wp2_with fail
    rw [HS.out]
    go_ret2
    have hx5 : w.heap.size ≤ wr.heap.size := Nat.le_of_lt hltr
    have hx6 : w.heap.size ≤ w5.heap.size := Nat.le_trans hx5 hb5.size
    have hx7 : w.heap.size ≤ _ := Nat.le_trans hx6 hb6.size
    exact ⟨rfl, hBr.trans ((hb5.mono hx5).trans ((hb6.mono hx6).trans (hb8.mono hx7)))⟩
theorem rEncode_any (k t g : Int) (v : Value) (ws : List WrL) (w : World) (hv : WsAt w v ws) (hs : SizedAll ws) (hm : ws.length ≤ maxLen) :
    Calls Try.prog 25 #[recV k t g v] w fun e w' => e = .returned (.tuple #[.string (encS k t g ws), .int .i64 (encE k t g ws)]) ∧ Below w.heap.size w w' := by
  cases hr : recB k t g ws
  · unfold encS encE; rw [hr]; exact rEncode_no k t g v ws w hv hs hm hr
  · obtain ⟨kn, tn, gn, rfl, rfl, rfl, h1, h6, ht, hg, hw, hn⟩ := rec_nat hr
    unfold encS encE; rw [hr]
    have ne6 : kn ≠ 6 → (((kn : Nat) : Int) != 6) = true := fun h => by rw [bne_iff_ne]; omega
    have ne4 : kn ≠ 4 → (((kn : Nat) : Int) == 4) = false := fun h => by rw [beq_eq_false_iff_ne]; omega
    by_cases hk : kn = 1 ∨ kn = 2 ∨ kn = 5
    · obtain ⟨hp, hsh⟩ := hw hk
      rcases hv with ⟨rfl, rfl⟩ | ⟨b, off, cap, rfl, hc⟩
      · simp at hp
      · exact rEncode_1 kn tn gn b off cap ws w hc hs hm hr h1 h6 ht hg hp hsh (ne6 (by omega)) (ne4 (by omega)) (by show _ = _; unfold payL wsBytes; rw [if_pos hk, List.append_assoc])
    · have hp := hn (by omega)
      obtain ⟨a, cap, rfl⟩ := hv.form
      by_cases h3 : kn = 3
      · exact rEncode_3 kn tn gn a cap ws w hv hs hr h1 h6 ht hg hp hk (ne6 (by omega)) (ne4 (by omega)) (by show _ = _; unfold payL; rw [if_neg hk, if_pos h3])
      by_cases h4 : kn = 4
      · exact rEncode_4 kn tn gn a cap ws w hv hs hr h1 h6 ht hg hp hk (ne6 (by omega)) (by subst h4; rfl) (by show _ = _; unfold payL; rw [if_neg hk, if_neg h3, if_pos h4])
      · obtain rfl : kn = 6 := by omega
        exact rEncode_6 6 tn gn a cap ws w hv hs hr h1 h6 ht hg hp hk rfl rfl (by show _ = _; unfold payL; rw [if_neg hk, if_neg h3, if_neg h4])
end Go.Proofs.Ytneepapppbchnaa
