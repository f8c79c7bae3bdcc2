/- The walks of appendNumber, appendFlag and appendText: a row of bytes that the call owns, made longer. -/
import Derived.Test.YtneepapppbchnaaSums
import Derived.Test.YtneepapppbchnaaGrow
namespace Go.Proofs.Ytneepapppbchnaa
open Go.RowKit
set_option linter.unusedVariables false

def byteV (b : UInt8) : Value := .int .u8 (b.toNat : Int)
/-- the slice v is a row of the call's own and holds the bytes l -/
def Bs (w : World) (v : Value) (l : List UInt8) : Prop := w.ownsRow 0 5 1 v l.length (l.map byteV)
theorem Try.info5 : (Try.prog.info? 5).map (fun i => (i.zero, i.size, i.bytes)) = some (some (.int .u8 0), 1, 1) := by kernel_rfl
def numL (v k : Nat) : List UInt8 := (List.range k).map fun j => UInt8.ofNat (v / 256 ^ (k - 1 - j) % 256)
theorem numL_length (v k : Nat) : (numL v k).length = k := by simp [numL]
theorem numL_succ (v k : Nat) : numL v (k + 1) = UInt8.ofNat (v / 256 ^ k % 256) :: numL v k := by
  unfold numL
  rw [List.range_succ_eq_map, List.map_cons, List.map_map]
  congr 1
  apply List.map_congr_left
  intro j hj
  simp only [Function.comp]
  congr 4
  omega
/-- the first i of the k bytes -/
def numF (v k i : Nat) : List UInt8 := (List.range i).map fun j => UInt8.ofNat (v / 256 ^ (k - 1 - j) % 256)
theorem numF_length (v k i : Nat) : (numF v k i).length = i := by simp [numF]
theorem numF_succ (v k i : Nat) : numF v k (i + 1) = numF v k i ++ [UInt8.ofNat (v / 256 ^ (k - 1 - i) % 256)] := by
  unfold numF; rw [List.range_succ, List.map_append]; rfl

theorem byteV_num (n k j : Nat) : Value.int .u8 ((n : Int) / 2 ^ (8 * (k - 1 - j)) % 256) = byteV (UInt8.ofNat (n / 256 ^ (k - 1 - j) % 256)) := by
  unfold byteV
  have e : (2 : Nat) ^ (8 * (k - 1 - j)) = 256 ^ (k - 1 - j) := by rw [Nat.pow_mul]
  have h1 : (UInt8.ofNat (n / 256 ^ (k - 1 - j) % 256)).toNat = n / 256 ^ (k - 1 - j) % 256 := UInt8.toNat_ofNat_of_lt' (Nat.mod_lt _ (by decide))
  rw [h1, ← e]
  simp
theorem Bs.ne_len {w : World} {v : Value} {l : List UInt8} (h : Bs w v l) (hn : v ≠ .slice none 0 0) : ∃ b cap, v = .slice (some ⟨b, 0, none⟩) l.length cap := by
  rcases h.2 with ⟨h1, _⟩ | ⟨g, cap, cur, h1, _⟩
  · exact absurd h1 hn
  · exact ⟨g, cap, h1⟩
theorem Bs.snoc {w : World} {v : Value} {l : List UInt8} {x : Value} {b : UInt8} (hx : x = byteV b) (h : w.ownsRow 0 5 1 v (l.length + 1) (l.map byteV ++ [x])) : Bs w v (l ++ [b]) := by
  subst hx
  unfold Bs
  simpa using h
theorem cell0 (w : World) (x : Value) (t : TypeId) : (w.alloc (.cells #[x] t)).cell? ⟨w.heap.size, 0, none⟩ = some x := by simp
theorem srcOne {P : Program} (w : World) (t e : TypeId) (ht : P.underlying t = some (.slice e)) (b : Nat) (c : Nat) (y : Int) (hc : w.cell? ⟨b, 0, none⟩ = some (.int .u8 y)) : Src P 1 t (.slice (some ⟨b, 0, none⟩) 1 c) 1 [.int .u8 y] w :=
  Src.ofSlice w ht ⟨b, 0, none⟩ 1 c [.int .u8 y] rfl (fun j u hj => by
    match j, hj with
    | 0, hj => simp at hj; subst hj; simpa [Addr.add] using hc) (by intro u hu; simp at hu; subst hu; rfl)

set_option maxHeartbeats 400000 in
set_option maxRecDepth 100000 in
theorem appendNumber_any (v : Value) (l : List UInt8) (n k : Nat) (w : World) (hv : Bs w v l) (hk : k ≤ 8) (hn : n < 4294967296) (hl : l.length ≤ 1000000) :
    Calls Try.prog 51 #[v, .int .i64 n, .int .i64 k] w fun e w' => ∃ v', e = .returned v' ∧ Bs w' v' (l ++ numL n k) ∧ w.grownBy w' v.ownBlock ∧ Newer w v v' := by
  obtain ⟨i0, hi, hz0, hz1, hz2⟩ := info_parts Try.info5
  go_enter Try.func51, Try.ntmps51
  go_wp2
  go_loopw [0, 9] (fun u i wr => ∃ j : Nat, j ≤ k ∧ i = .int .i64 j ∧ Bs wr u (l ++ numF n k j) ∧ w.grownBy wr v.ownBlock ∧ Newer w v u) (fun _ i _ => k - (intOf i).toNat)
  case atStart => exact ⟨0, Nat.zero_le _, rfl, by simpa [numF] using hv, grown_refl _ _, Newer.refl _ _⟩
  case round =>
    obtain ⟨j, hj, rfl, hb, hg, hnw⟩ := hrel
    by_cases hlt : j < k
    · have hlen : (l ++ numF n k j).length = l.length + j := by rw [List.length_append, numF_length]
      have hl1 : (l ++ numF n k j).length + 1 ≤ maxLen := by unfold maxLen; omega
      have hl2 : ((l ++ numF n k j).length + 1) * 1 ≤ 140737488355328 := by omega
      have HN : Hid (numF n k (j + 1) = numF n k j ++ [UInt8.ofNat (n / 256 ^ (k - 1 - j) % 256)]) := numF_succ n k j
      have HB : Hid (Value.int .u8 ((n : Int) / 2 ^ (8 * (k - 1 - j)) % 256) = byteV (UInt8.ofNat (n / 256 ^ (k - 1 - j) % 256))) := byteV_num n k j
      clear hlen
      go_wp2_with (at_builtin; go_must (refine wpList_append_src _ rfl _ _ 28 28 rfl 5 i0 (.int .u8 0) 1 1 Try.underlying28 hi hz0 hz1 hz2 rfl (by decide) _ _ _ rfl (World.ownsRow.alloc hb _) _ 1 _ rfl (srcOne _ _ _ Try.underlying28 _ _ _ (cell0 _ _ _)) (fun _ => by decide) hl1 hl2 ?_; intro u' w1 hown hgr hnew hne))
      go_roundw
      case rel =>
        refine ⟨j + 1, by omega, by go_num, ?_, ?_, ?_⟩
        · rw [HN.out, ← List.append_assoc]
          exact Bs.snoc HB.out hown
        · exact grown_trans (grown_alloc hg _) hnw hgr
        · exact Newer.trans hnw (Nat.le_trans hg.size (by simp)) hnew
      case measure => simp [intOf]; omega
    · obtain rfl : j = k := by omega
      go_wp2
      go_ret
      exact ⟨_, rfl, hb, hg, hnw⟩

set_option maxHeartbeats 400000 in
set_option maxRecDepth 100000 in
theorem appendFlag_any (v : Value) (l : List UInt8) (d : Bool) (w : World) (hv : Bs w v l) (hl : l.length ≤ 1000000) :
    Calls Try.prog 65 #[v, .bool d] w fun e w' => ∃ v', e = .returned v' ∧ Bs w' v' (l ++ [if d then 1 else 0]) ∧ w.grownBy w' v.ownBlock ∧ Newer w v v' := by
  obtain ⟨i0, hi, hz0, hz1, hz2⟩ := info_parts Try.info5
  have hl1 : l.length + 1 ≤ maxLen := by unfold maxLen; omega
  have hl2 : (l.length + 1) * 1 ≤ 140737488355328 := by omega
  cases d
  · go_enter Try.func65, Try.ntmps65
    go_wp2_with (at_builtin; go_must (refine wpList_append_src _ rfl _ _ 28 28 rfl 5 i0 (.int .u8 0) 1 1 Try.underlying28 hi hz0 hz1 hz2 rfl (by decide) _ _ _ rfl (World.ownsRow.alloc hv _) _ 1 _ rfl (srcOne _ _ _ Try.underlying28 _ _ _ (cell0 _ _ _)) (fun _ => by decide) hl1 hl2 ?_; intro u' w1 hown hgr hnew hne))
    go_ret
    exact ⟨_, rfl, Bs.snoc rfl hown, grown_trans (grown_alloc (grown_refl _ _) _) (Newer.refl _ _) hgr, Newer.trans (Newer.refl _ _) (by simp) hnew⟩
  · go_enter Try.func65, Try.ntmps65
    go_wp2_with (at_builtin; go_must (refine wpList_append_src _ rfl _ _ 28 28 rfl 5 i0 (.int .u8 0) 1 1 Try.underlying28 hi hz0 hz1 hz2 rfl (by decide) _ _ _ rfl (World.ownsRow.alloc hv _) _ 1 _ rfl (srcOne _ _ _ Try.underlying28 _ _ _ (cell0 _ _ _)) (fun _ => by decide) hl1 hl2 ?_; intro u' w1 hown hgr hnew hne))
    go_ret
    exact ⟨_, rfl, Bs.snoc rfl hown, grown_trans (grown_alloc (grown_refl _ _) _) (Newer.refl _ _) hgr, Newer.trans (Newer.refl _ _) (by simp) hnew⟩

theorem Bs.text {w : World} {v : Value} {l : List UInt8} {s : ByteArray} (h : w.ownsRow 0 5 1 v (l.length + s.size) (l.map byteV ++ byteCells s)) : Bs w v (l ++ s.data.toList) := by
  unfold Bs
  rw [List.map_append, List.length_append, Array.length_toList]
  exact h
theorem Bs.not_nil {w : World} {v : Value} {l : List UInt8} (h : Bs w v l) (hl : l ≠ []) : v ≠ .slice none 0 0 := by
  intro e
  rcases h.2 with ⟨h1, h2⟩ | ⟨g, cap, cur, h1, _⟩
  · exact hl (List.eq_nil_of_length_eq_zero h2)
  · rw [e] at h1; cases h1

set_option maxHeartbeats 400000 in
set_option maxRecDepth 100000 in
theorem appendText_any (v : Value) (l : List UInt8) (s : ByteArray) (w : World) (hv : Bs w v l) (hl : l.length ≤ 999990) (hs : s.size ≤ 255) :
    Calls Try.prog 52 #[v, .string s] w fun e w' => ∃ v', e = .returned v' ∧ Bs w' v' (l ++ numL s.size 1 ++ s.data.toList) ∧ w.grownBy w' v.ownBlock ∧ Newer w v v' := by
  obtain ⟨i0, hi, hz0, hz1, hz2⟩ := info_parts Try.info5
  go_enter Try.func52, Try.ntmps52
  go_wp2_with fail
  refine (appendNumber_any v l s.size 1 _ hv (by omega) (by omega) (by omega)).mono ?_
  rintro e w1 ⟨v1, rfl, hb, hg, hn⟩
  have hlen : (l ++ numL s.size 1).length = l.length + 1 := by rw [List.length_append, numL_length]
  have hl1 : (l ++ numL s.size 1).length + s.size ≤ maxLen := by unfold maxLen; omega
  have hl2 : ((l ++ numL s.size 1).length + s.size) * 1 ≤ 140737488355328 := by omega
  have hne : v1 = .slice none 0 0 → 0 < s.size := fun e => absurd e (hb.not_nil (by intro h; rw [h] at hlen; simp at hlen))
  clear hlen
  go_wp2_with (at_builtin; go_must (refine wpList_append_src _ rfl _ _ 28 9 rfl 5 i0 (.int .u8 0) 1 1 Try.underlying28 hi hz0 hz1 hz2 rfl (by decide) _ _ _ rfl hb _ s.size _ rfl (Src.ofString _ Try.underlying9 s) hne hl1 hl2 ?_; intro u' w2 hown hgr hnew hne))
  go_ret
  exact ⟨_, rfl, Bs.text hown, grown_trans hg hn hgr, Newer.trans hn hg.size hnew⟩
end Go.Proofs.Ytneepapppbchnaa
