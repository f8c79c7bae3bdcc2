/- The walks of strings.Clone and of the cursor's take, number and text. -/
import Derived.Test.YtneepapppbchnaaRef
import Derived.Lib.UnsafeStr
import Derived.Lib.BufferWrite
import Derived.Laws.MakeOwn
namespace Go.Proofs.Ytneepapppbchnaa
open Go.RowKit
set_option linter.unusedVariables false

theorem below_freeze {B : Nat} {a w : World} (h : Below B a w) {p : Addr} (hp : B ≤ p.block) (n : Nat) : Below B a (w.freeze p n) := by
  unfold World.freeze
  split
  · exact h
  · refine ⟨h.os, h.tape, h.output, ?_, fun k hk => ?_⟩
    · simpa using h.size
    · rw [← h.block k hk]
      simp only [Array.getElem?_modify]
      rw [if_neg (by omega)]
/-- what Clone does: a row is made, filled, and read as a text -/
theorem clone_runs (w : World) (s : ByteArray) (h0 : s.size ≠ 0) (hs : s.size ≤ 100000) :
    ∃ W1 W2 W3, (Instr.makeSlice 28 (.int .i64 (s.size : Int)) (.int .i64 (s.size : Int))).run Try.prog w = .ok (.slice (some ⟨w.heap.size, 0, none⟩) s.size s.size) W1 ∧
      (∀ ty, (Builtin.copy_ #[28, 9] ty #[.slice (some ⟨w.heap.size, 0, none⟩) s.size s.size, .string s]).run Try.prog W1 = .ok (goInt s.size) W2) ∧
      (∀ ty, (Builtin.unsafeString_ #[102, 3] ty #[.pointer (some ⟨w.heap.size, 0, none⟩), .int .i64 (s.size : Int)]).run Try.prog W2 = .ok (.string s) W3) ∧ Below w.heap.size w W3 := by
  obtain ⟨i0, hi, hz0, hz1, hz2⟩ := info_parts Try.info5
  have h := run_make (P := Try.prog) w 28 5 i0 _ Try.underlying28 hi hz0 .i64 .i64 (s.size : Int) (s.size : Int) (by omega) (Int.le_refl _) (by rw [hz2]; omega) (by omega)
  rw [hz1, Int.toNat_natCast] at h
  have hg1 : (w.alloc (.cells (madeCells (Value.int .u8 0).cells (s.size * 1)) 5)).heap[w.heap.size]? = some (.cells (madeCells (Value.int .u8 0).cells (s.size * 1)) 5 (0, 0)) := heap_alloc_new w _
  have hcs : (madeCells (Value.int .u8 0).cells (s.size * 1)).size = s.size := by rw [size_madeCells, Nat.mul_one]
  have hc := fun ty => Lib.run_copy_row_string (P := Try.prog) (w.alloc (.cells (madeCells (Value.int .u8 0).cells (s.size * 1)) 5)) 28 9 ty 5 w.heap.size 0 s.size s.size s _ 5 Try.underlying28 (by rw [hi]; simp [hz1]) hg1 (Nat.le_refl _) (by rw [hcs]; omega)
  generalize madeCells (Value.int .u8 0).cells (s.size * 1) = mc at *
  have hX : mc.toList.take 0 ++ Lib.byteCells s.data.toList ++ mc.toList.drop (0 + s.size) = Lib.byteCells s.data.toList := by
    rw [List.drop_eq_nil_of_le (by simp [hcs])]; simp
  rw [hX] at hc
  have hg2 := setRow_heap (w.alloc (.cells mc 5)) w.heap.size mc (Lib.byteCells s.data.toList).toArray 5 (0, 0) hg1
  have hB2 : Below w.heap.size w ((w.alloc (.cells mc 5)).setRow w.heap.size (Lib.byteCells s.data.toList).toArray) :=
    (box_below w _).trans ⟨rfl, rfl, rfl, by simp, fun k hk => setRow_other _ _ k _ (by omega)⟩
  generalize (w.alloc (.cells mc 5)).setRow w.heap.size (Lib.byteCells s.data.toList).toArray = W2 at *
  have hlen : (Lib.byteCells s.data.toList).length = s.size := by rw [Lib.byteCells_length, size_list]
  have hsh : W2.shape? w.heap.size = some (5, s.size) := by
    unfold World.shape?
    rw [hg2]; simp [hlen]
  have hne : s.data.toList ≠ [] := by intro e; apply h0; rw [← size_list, e]; rfl
  have hu := fun ty => Lib.run_unsafeString_row (P := Try.prog) W2 102 3 ty 5 Try.underlying102 (by kernel_rfl) w.heap.size s.size hsh s.data.toList hne (by rw [size_list]; omega) (by rw [size_list]; omega) (by
    intro j x hj
    have hj' := (List.getElem?_eq_some_iff.1 hj)
    rw [Addr.add_lit, Nat.zero_add]
    simp only [World.cell?, hg2]
    simp [Lib.byteCells, hj])
  refine ⟨_, W2, W2.freeze ⟨w.heap.size, 0, none⟩ s.data.toList.length, h, hc, fun ty => ?_, below_freeze (p := ⟨w.heap.size, 0, none⟩) hB2 (Nat.le_refl _) s.data.toList.length⟩
  have := hu ty
  rw [size_list] at this
  rw [this, ← text_of_list s _ rfl]
  rw [size_list]
set_option maxHeartbeats 400000 in
theorem sclone_any (s : ByteArray) (w : World) (hs : s.size ≤ 100000) :
    Calls Try.prog 72 #[.string s] w fun e w' => e = .returned (.string s) ∧ Below w.heap.size w w' := by
  by_cases h0 : s.size = 0
  · have he : s = ⟨#[]⟩ := by
      obtain ⟨a⟩ := s
      congr
      exact Array.eq_empty_of_size_eq_zero h0
    subst he
    go_enter Try.func72, Try.ntmps72
    go_wp2_with fail
    go_ret
    exact ⟨rfl, Below.refl _ _⟩
  · obtain ⟨W1, W2, W3, h1, h2, h3, hb⟩ := clone_runs w s h0 hs
    have hz : ((s.size : Int) == 0) = false := by rw [beq_eq_false_iff_ne]; omega
    have hp : (0 : Int) < (s.size : Int) := by omega
    have hpn : 0 < s.size := by omega
    go_enter Try.func72, Try.ntmps72
    go_wp2_with fail
    go_ret
    exact ⟨rfl, hb⟩
set_option maxHeartbeats 400000 in
theorem clone_any (s : ByteArray) (w : World) (hs : s.size ≤ 100000) :
    Calls Try.prog 71 #[.string s] w fun e w' => e = .returned (.string s) ∧ Below w.heap.size w w' := by
  go_enter Try.func71, Try.ntmps71
  go_wp2_with fail
  refine (sclone_any s _ hs).mono ?_
  rintro e w1 ⟨rfl, hb⟩
  go_wp2_with fail
  go_ret
  exact ⟨rfl, hb⟩
theorem text_take (l : List UInt8) (n m : Nat) (hm : m = min n l.length) : (textOf l).extract 0 m = textOf (l.take n) := by
  subst hm
  unfold textOf
  ext1
  simp
theorem text_drop (l : List UInt8) (n m : Nat) (hm : m = min n l.length) : (textOf l).extract m (textOf l).size = textOf (l.drop n) := by
  subst hm
  rw [textOf_size]
  unfold textOf
  ext1
  simp only [ByteArray.data_extract]
  apply Array.ext'
  simp only [Array.toList_extract, List.extract_eq_take_drop]
  rw [List.take_of_length_le (by simp)]
  by_cases h : n ≤ l.length
  · rw [Nat.min_eq_left h]
  · rw [Nat.min_eq_right (by omega), List.drop_eq_nil_of_le (Nat.le_refl _), List.drop_eq_nil_of_le (by omega)]
set_option maxHeartbeats 400000 in
theorem take_any (c n : Nat) (l : List UInt8) (w : World) (hc : w.cell? ⟨c, 0, none⟩ = some (.string (textOf l))) (hf : w.frozen? ⟨c, 0, none⟩ = false) (hn : n ≤ 100000) (hl : l.length ≤ 100000) :
    Calls Try.prog 69 #[.pointer (some ⟨c, 0, none⟩), .int .i64 n] w fun e w' => e = .returned (.string (textOf (l.take n))) ∧ w' = w.setCell ⟨c, 0, none⟩ (.string (textOf (l.drop n))) := by
  have hs := textOf_size l
  have hs1 : (textOf l).size ≤ 100000 := by omega
  have HS : Hid ((textOf l).size = l.length) := hs
  clear hs
  by_cases h : n ≤ (textOf l).size
  · have HT : Hid ((textOf l).extract 0 n = textOf (l.take n)) := text_take l n n (by have := HS.out; omega)
    have HD : Hid ((textOf l).extract n (textOf l).size = textOf (l.drop n)) := text_drop l n n (by have := HS.out; omega)
    generalize textOf l = s at *
    go_enter Try.func69, Try.ntmps69
    go_wp2_with fail
    rw [HT.out, HD.out]
    go_ret
    exact ⟨rfl, rfl⟩
  · have HT : Hid (textOf l = textOf (l.take n)) := by
      show _ = _
      rw [List.take_of_length_le (by have := HS.out; omega)]
    have HD : Hid (ByteArray.empty = textOf (l.drop n)) := by
      show _ = _
      rw [List.drop_eq_nil_of_le (by have := HS.out; omega)]; rfl
    have h2 : ¬ (n : Int) ≤ (((textOf l).size : Nat) : Int) := by omega
    have hc' := hc
    clear hc
    generalize hs : textOf l = s at *
    clear hs
    go_enter Try.func69, Try.ntmps69
    go_wp2_with fail
    rw [← HD.out]
    go_ret
    exact ⟨congrArg (fun s => Ending.returned (.string s)) HT.out, rfl⟩

/-- the cursor's one cell: what is still to be read -/
def Cur (w : World) (c : Nat) (l : List UInt8) : Prop := w.heap[c]? = some (.cells #[.string (textOf l)] 96 (0, 0))
theorem Cur.cell {w : World} {c : Nat} {l : List UInt8} (h : Cur w c l) : w.cell? ⟨c, 0, none⟩ = some (.string (textOf l)) := by
  unfold Cur at h; simp [World.cell?, h]
theorem Cur.frozen {w : World} {c : Nat} {l : List UInt8} (h : Cur w c l) : w.frozen? ⟨c, 0, none⟩ = false := by
  unfold Cur at h; simp [World.frozen?, h]
theorem Cur.set {w : World} {c : Nat} {l : List UInt8} (h : Cur w c l) (l' : List UInt8) : Cur (w.setCell ⟨c, 0, none⟩ (.string (textOf l'))) c l' := by
  unfold Cur at *
  unfold World.setCell
  simp only [Array.getElem?_modify, h]
  simp
theorem Cur.lt {w : World} {c : Nat} {l : List UInt8} (h : Cur w c l) : c < w.heap.size := World.block_lt_of_cell? w _ h.cell
theorem Cur.kept {w w' : World} {c : Nat} {l : List UInt8} (h : Cur w c l) (hb : Below w.heap.size w w') : Cur w' c l := (hb.block c h.lt).trans h
theorem grown_set (w : World) (c : Nat) (v : Value) : w.grownBy (w.setCell ⟨c, 0, none⟩ v) (some c) :=
  ⟨rfl, rfl, rfl, by simp, fun k _ hne => Below.heap_setCell w _ v k (fun e => hne (by rw [e]))⟩
theorem grown_tr {w w1 w2 : World} {r : Option Nat} (h : w.grownBy w1 r) (h2 : w1.grownBy w2 r) : w.grownBy w2 r :=
  ⟨h2.os.trans h.os, h2.tape.trans h.tape, h2.output.trans h.output, Nat.le_trans h.size h2.size, fun k hk hne => (h2.block k (Nat.lt_of_lt_of_le hk h.size) hne).trans (h.block k hk hne)⟩
theorem grown_below {w w1 : World} {r : Option Nat} (h : Below w.heap.size w w1) : w.grownBy w1 r := ⟨h.os, h.tape, h.output, h.size, fun k hk _ => h.block k hk⟩
theorem ctake_any (c n : Nat) (l : List UInt8) (w : World) (hc : Cur w c l) (hn : n ≤ 100000) (hl : l.length ≤ 100000) :
    Calls Try.prog 69 #[.pointer (some ⟨c, 0, none⟩), .int .i64 n] w fun e w' => e = .returned (.string (textOf (l.take n))) ∧ Cur w' c (l.drop n) ∧ w.grownBy w' (some c) := by
  refine (take_any c n l w hc.cell hc.frozen hn hl).mono ?_
  rintro e w' ⟨rfl, rfl⟩
  exact ⟨rfl, hc.set _, grown_set _ _ _⟩

/-- the number that some bytes tell -/
def numD (bs : List UInt8) : Nat := bs.foldl (fun v b => v * 256 + b.toNat) 0
theorem numD_snoc (bs : List UInt8) (b : UInt8) : numD (bs ++ [b]) = numD bs * 256 + b.toNat := by unfold numD; rw [List.foldl_append]; rfl
theorem numD_lt (bs : List UInt8) (k : Nat) (h : bs.length = k) : numD bs < 256 ^ k := by
  induction k generalizing bs with
  | zero => have : bs = [] := List.eq_nil_of_length_eq_zero h
            subst this; decide
  | succ k ih =>
    obtain ⟨init, x, rfl⟩ : ∃ init x, bs = init ++ [x] := ⟨_, _, (List.dropLast_concat_getLast (by intro e; subst e; simp at h)).symm⟩
    rw [numD_snoc, Nat.pow_succ]
    have h1 := ih init (by simpa using h)
    have h2 := x.toNat_lt
    have : numD init + 1 ≤ 256 ^ k := h1
    have := Nat.mul_le_mul_right 256 this
    omega
theorem i64_or_byte (a b : Nat) (ha : a < 4294967296) (hb : b < 256) : bits .or .i64 ((a * 256 : Nat) : Int) (b : Int) = ((a * 256 + b : Nat) : Int) := by
  have h := bits_nat .i64 63 (by decide) (fun n h0 h1 => by rw [IntKind.wrap_i64]; omega) (a * 256) b (by omega) (by omega)
  rw [h.2]
  have := Nat.two_pow_add_eq_or_of_lt (i := 8) (b := b) (by simpa using hb) a
  rw [show a * 256 = 2 ^ 8 * a by omega, ← this]

set_option maxHeartbeats 400000 in
theorem cnumber_any (c n : Nat) (l : List UInt8) (w : World) (hc : Cur w c l) (hn : n ≤ 2) (hl : l.length ≤ 100000) :
    Calls Try.prog 66 #[.pointer (some ⟨c, 0, none⟩), .int .i64 n] w fun e w' => e = .returned (.int .i64 (numD (l.take n) : Nat)) ∧ Cur w' c (l.drop n) ∧ w.grownBy w' (some c) := by
  have hz : (textOf (l.take n)).size ≤ 2 := by rw [textOf_size, List.length_take]; omega
  go_enter Try.func66, Try.ntmps66
  go_wp2_with fail
  refine (ctake_any c n l _ hc (by omega) hl).mono ?_
  rintro e w1 ⟨rfl, hc1, hg1⟩
  obtain ⟨cap, W1, hrun, hcap, hsz, hbel, hcell, hfrz⟩ := toBytes (P := Try.prog) w1 9 28 5 (textOf (l.take n)) Try.underlying9 Try.underlying28 Try.underlying5
  have HC : Hid (∀ j (h : j < (textOf (l.take n)).size), W1.cell? ⟨w1.heap.size, j, none⟩ = some (.int .u8 ((textOf (l.take n))[j].toNat : Int))) := hcell
  have HS : Hid ((textOf (l.take n)).data.toList = l.take n) := rfl
  have hcW : Cur W1 c (l.drop n) := hc1.kept hbel
  have hgW : w.grownBy W1 (some c) := grown_tr hg1 (grown_below hbel)
  clear hcell hfrz
  generalize textOf (l.take n) = s at *
  go_wp2_with fail
  go_loop [5, 7, 13] (fun v _ i => ∃ k : Nat, k ≤ s.size ∧ i = .int .i64 k ∧ v = .int .i64 (numD (s.data.toList.take k) : Nat)) (fun _ _ i => s.size - (intOf i).toNat)
  case atStart => exact ⟨0, Nat.zero_le _, rfl, rfl⟩
  case round =>
    obtain ⟨k, hk, rfl, rfl⟩ := hrel
    have hlt2 := numD_lt (s.data.toList.take k) k (by rw [List.length_take, size_list]; omega)
    have hlt3 : numD (s.data.toList.take k) < 65536 := Nat.lt_of_lt_of_le hlt2 (by have := Nat.pow_le_pow_right (n := 256) (by decide) (show k ≤ 2 by omega); simpa using this)
    clear hlt2
    by_cases hlt : k < s.size
    · have HN : Hid (numD (s.data.toList.take (k + 1)) = numD (s.data.toList.take k) * 256 + s[k].toNat) := by
        show _ = _
        rw [take_snoc s k hlt, numD_snoc]
      have hck := HC.out k hlt
      generalize numD (s.data.toList.take k) = y at *
      have hb8 : s[k].toNat < 256 := s[k].toNat_lt
      have HO : Hid (bits .or .i64 ((y * 256 : Nat) : Int) (s[k].toNat : Int) = ((y * 256 + s[k].toNat : Nat) : Int)) := i64_or_byte y _ (by omega) hb8
      go_wp2_with fail
      go_round
      case rel => exact ⟨k + 1, by omega, by go_num, by rw [HN.out, ← HO.out]; go_num⟩
      case measure => simp [intOf]; omega
    · obtain rfl : k = s.size := by omega
      rw [List.take_of_length_le (by rw [size_list]; omega), HS.out]
      go_wp2_with fail
      go_ret
      exact ⟨rfl, hcW, hgW⟩

/-- a text behind its length, and what is left -/
def textD (l : List UInt8) : List UInt8 := (l.drop 1).take (numD (l.take 1))
def textR (l : List UInt8) : List UInt8 := (l.drop 1).drop (numD (l.take 1))
theorem numD_one (l : List UInt8) : numD (l.take 1) ≤ 255 := by
  match l with
  | [] => decide
  | x :: r =>
    have h : numD ((x :: r).take 1) = x.toNat := by simp [numD]
    have := x.toNat_lt
    omega
set_option maxHeartbeats 400000 in
theorem ctext_any (c : Nat) (l : List UInt8) (w : World) (hc : Cur w c l) (hl : l.length ≤ 100000) :
    Calls Try.prog 70 #[.pointer (some ⟨c, 0, none⟩)] w fun e w' => e = .returned (.string (textOf (textD l))) ∧ Cur w' c (textR l) ∧ w.grownBy w' (some c) := by
  have h1 := numD_one l
  have HD : Hid (textD l = (l.drop 1).take (numD (l.take 1))) := rfl
  have HR : Hid (textR l = (l.drop 1).drop (numD (l.take 1))) := rfl
  have hl1 : (l.drop 1).length ≤ 100000 := by rw [List.length_drop]; omega
  go_enter Try.func70, Try.ntmps70
  go_wp2_with fail
  refine (cnumber_any c 1 l _ hc (by omega) hl).mono ?_
  rintro e w1 ⟨rfl, hc1, hg1⟩
  generalize numD (l.take 1) = n at *
  generalize l.drop 1 = l1 at *
  go_wp2_with fail
  refine (ctake_any c n l1 _ hc1 (by omega) hl1).mono ?_
  rintro e w2 ⟨rfl, hc2, hg2⟩
  have hz : (textOf (l1.take n)).size ≤ 100000 := by rw [textOf_size, List.length_take]; omega
  go_wp2_with fail
  refine (clone_any _ _ hz).mono ?_
  rintro e w3 ⟨rfl, hb3⟩
  go_wp2_with fail
  go_ret
  exact ⟨congrArg (fun x => Ending.returned (.string (textOf x))) HD.out.symm, by rw [HR.out]; exact hc2.kept hb3, grown_tr (grown_tr hg1 hg2) (grown_below hb3)⟩
end Go.Proofs.Ytneepapppbchnaa
