/- The walk of Spread: whatever the key, the number of shards and the step, it returns true. -/
import Derived.Test.YtneepapppbchnaaPicks
import Derived.Test.YtneepapppbchnaaMem
namespace Go.Proofs.Ytneepapppbchnaa
open Go.RowKit
set_option linter.unusedVariables false
theorem shard_a : shardV ⟨#[97]⟩ 4 = 1 ∧ shardE ⟨#[97]⟩ 4 = 0 := by decide
theorem shard_no (m : Int) (h1 : 1 ≤ m) (h2 : m ≤ 4) : shardV ⟨#[]⟩ m = 0 ∧ shardE ⟨#[]⟩ m = 7 := by
  have hk : keyB ⟨#[]⟩ = false := by decide
  unfold shardV shardE; simp only [h1, h2, hk, and_self, if_true]; exact ⟨rfl, rfl⟩
theorem shard_yes (k : ByteArray) (m : Int) (h1 : 1 ≤ m) (h2 : m ≤ 4) (h3 : k.size ≠ 0) (h4 : k.size ≤ 8) : shardV k m = (hashOf k.data.toList : Int) % m ∧ shardE k m = 0 := by
  have hk : keyB k = true := keyB_yes (by omega)
  unfold shardV shardE; simp only [h1, h2, hk, and_self, if_true]
theorem spread_ne (init : List UInt8) (x z : UInt8) (m d : Int) (hm : m = 2 ∨ m = 4) (hz : (z.toNat : Int) = x.toNat + d) (hd : d % m ≠ 0) : ((hashOf (init ++ [x]) : Int) % m != (hashOf (init ++ [z]) : Int) % m) = true := by
  rw [hashOf_snoc, hashOf_snoc, bne_iff_ne]
  rcases hm with rfl | rfl <;> omega
/-- the last byte written anew, and back to a text -/
theorem back {P : Program} (w1 : World) (src dst e : TypeId) (b cap n : Nat) (init : List UInt8) (y : Int) (hy : 0 ≤ y ∧ y ≤ 255) (hn : n = init.length + 1) (v : Value)
    (hs : P.underlying src = some (.slice e)) (he : P.underlying e = some (.int .u8)) (hd : P.underlying dst = some .string)
    (hc : ∀ j (h : j < init.length), w1.cell? ⟨b, j, none⟩ = some (.int .u8 (init[j].toNat : Int))) (hl : w1.cell? ⟨b, init.length, none⟩ = some v) :
    ∃ (z : UInt8) (k2 : ByteArray), (z.toNat : Int) = y ∧ k2.data.toList = init ++ [z] ∧ (convert src dst (.slice (some ⟨b, 0, none⟩) n cap)).run P (w1.setCell ⟨b, init.length, none⟩ (.int .u8 y)) = .ok (.string k2) (w1.setCell ⟨b, init.length, none⟩ (.int .u8 y)) := by
  have hz : ((UInt8.ofNat y.toNat).toNat : Int) = y := by
    rw [UInt8.toNat_ofNat_of_lt' (by show y.toNat < 256; omega)]; omega
  refine ⟨UInt8.ofNat y.toNat, ⟨(init ++ [UInt8.ofNat y.toNat]).toArray⟩, hz, rfl, ?_⟩
  refine toText _ src dst e b cap n _ (by simp [hn]) hs he hd ?_
  intro j hj
  by_cases h : j < init.length
  · rw [List.getElem_append_left h, ← hc j h]
    exact World.cell?_setCell_other _ _ _ _ (by intro e; injection e with e1 e2; omega)
  · have : j = init.length := by simp at hj; omega
    subst this
    rw [List.getElem_append_right (Nat.le_refl _)]
    simp only [Nat.sub_self, List.getElem_cons_zero, hz]
    exact World.cell?_setCell_same _ _ _ hl
set_option maxHeartbeats 400000 in
set_option maxRecDepth 100000 in
theorem Spread_any (s : ByteArray) (c d : Int) (w : World) (hs : s.size ≤ maxLen) (hc : -9223372036854775808 ≤ c ∧ c ≤ 9223372036854775807) (hd : -9223372036854775808 ≤ d ∧ d ≤ 9223372036854775807) :
    Calls Try.prog 4 #[.string s, .int .i64 c, .int .i64 d] w fun e w' => e = .returned (.bool true) ∧ Below w.heap.size w w' := by
  obtain ⟨ha, hb⟩ := shard_a
  have hp0 := pickOf_nonneg c 2 (by omega)
  have hp1 := pickOf_lt c 2 (by omega)
  have hz := firstOf_size s 8
  have hz8 : (firstOf s 8).size ≤ 8 := by omega
  clear hz
  go_enter Try.func4, Try.ntmps4
  go_wp2_with fail
  refine (upTo_any s 8 _ hs (by omega)).mono ?_
  rintro e w' ⟨rfl, rfl⟩
  generalize firstOf s 8 = k at *
  go_wp2_with fail
  refine (pick_any c 2 _ hc (by omega) (by omega)).mono ?_
  rintro e w' ⟨rfl, rfl⟩
  have hm0 : 1 ≤ 2 + 2 * pickOf c 2 := by omega
  have hm1 : 2 + 2 * pickOf c 2 ≤ 4 := by omega
  have HM : Hid (2 + 2 * pickOf c 2 = 2 ∨ 2 + 2 * pickOf c 2 = 4) := by
    show _ ∨ _
    omega
  generalize pickOf c 2 = q at *
  go_wp2_with fail
  refine (pshard_any ⟨#[97]⟩ 4 _ (by decide)).mono ?_
  rintro e w' ⟨rfl, rfl⟩
  rw [ha, hb]
  clear ha hb
  go_wp2_with fail
  refine (pshard_any k _ _ (by unfold maxLen; omega)).mono ?_
  rintro e w' ⟨rfl, rfl⟩
  generalize 2 + 2 * q = m at *
  by_cases hk : k.size = 0
  · have hs0 : k = ⟨#[]⟩ := by
      obtain ⟨a⟩ := k
      congr
      exact Array.eq_empty_of_size_eq_zero hk
    subst hs0
    obtain ⟨e1, e2⟩ := shard_no m hm0 hm1
    rw [e1, e2]
    go_wp2_with fail
    go_ret
    exact ⟨rfl, Below.refl _ _⟩
  · obtain ⟨e1, e2⟩ := shard_yes k m hm0 hm1 hk hz8
    rw [e1, e2]
    clear e1 e2
    obtain ⟨init, x, HK⟩ : ∃ init x, Hid (k.data.toList = init ++ [x]) := by
      have hne : k.data.toList ≠ [] := by
        intro h0; exact hk (size_of_list k [] h0)
      exact ⟨_, _, (List.dropLast_concat_getLast hne).symm⟩
    have hks := size_of_list k _ HK.out
    simp only [List.length_append, List.length_singleton] at hks
    have hke : k.toList.isEmpty = false := by
      rw [ByteArray.toList_eq, HK.out]; simp
    obtain ⟨cap, W1, hrun, hcap, hsz, hbel, hcell, hfrz⟩ := toBytes (P := Try.prog) w' 9 28 5 k Try.underlying9 Try.underlying28 Try.underlying5
    have hcl : W1.cell? ⟨w'.heap.size, init.length, none⟩ = some (.int .u8 (x.toNat : Int)) := by
      have h1 := getByte k init.length (by omega)
      rw [HK.out] at h1
      simp at h1
      rw [hcell init.length (by omega), h1]
    have hfl := hfrz init.length (by omega)
    have HC : Hid (∀ j (h : j < init.length), W1.cell? ⟨w'.heap.size, j, none⟩ = some (.int .u8 (init[j].toNat : Int))) := by
      intro j h
      have h1 := getByte k j (by omega)
      rw [HK.out, List.getElem?_append_left h, List.getElem?_eq_getElem h] at h1
      rw [hcell j (by omega), Option.some.inj h1]
    have hb8 : x.toNat < 256 := x.toNat_lt
    clear hcell hfrz
    have hk7 : init.length < k.size := by omega
    have hk6 : k.size ≤ init.length + 1 := by omega
    have HL : Hid (k.size = init.length + 1) := hks
    have hkl : (k.size : Int) - 1 = (init.length : Int) := by omega
    clear hks
    have hm2 : 2 ≤ m := by have := HM.out; omega
    have hq0 := pickOf_nonneg d (m - 1) (by omega)
    have hq1 := pickOf_lt d (m - 1) (by omega)
    go_wp2_with fail
    refine (pick_any d (m - 1) _ hd (by omega) (by omega)).mono ?_
    rintro e w1 ⟨rfl, rfl⟩
    generalize pickOf d (m - 1) = st at *
    by_cases hov : 255 < (x.toNat : Int) + (1 + st)
    · obtain ⟨z, k2, hz, hk2, hback⟩ := back (P := Try.prog) w1 28 9 5 w'.heap.size cap k.size init (x.toNat + -(1 + st)) (by omega) HL.out _ Try.underlying28 Try.underlying5 Try.underlying9 HC.out hcl
      have hs2 := size_of_list k2 _ hk2
      simp only [List.length_append, List.length_singleton] at hs2
      have HN := spread_ne init x z m _ HM.out hz (by have := HM.out; rcases this with rfl | rfl <;> omega)
      rw [← HK.out, ← hk2] at HN
      have e1 := shard_yes k2 m hm0 hm1 (by omega) (by omega)
      have HE : Hid (shardV k2 m = (hashOf k2.data.toList : Int) % m ∧ shardE k2 m = 0) := e1
      have hs9 : k2.size ≤ 8 := by omega
      clear hz e1 hk2 hs2
      go_wp2_with fail
      refine (pshard_any k2 _ _ (by unfold maxLen; omega)).mono ?_
      rintro e w2 ⟨rfl, rfl⟩
      rw [HE.out.1, HE.out.2]
      generalize (hashOf k2.data.toList : Int) = h2 at *
      generalize (hashOf k.data.toList : Int) = h1 at *
      have ha0 : 0 ≤ h1 % m := Int.emod_nonneg _ (by omega)
      have ha1 : h1 % m < m := Int.emod_lt_of_pos _ (by omega)
      have hb0 : 0 ≤ h2 % m := Int.emod_nonneg _ (by omega)
      have hb1 : h2 % m < m := Int.emod_lt_of_pos _ (by omega)
      go_wp2_with fail
      go_ret
      exact ⟨rfl, hbel.setCell (Nat.le_refl _) _⟩
    · obtain ⟨z, k2, hz, hk2, hback⟩ := back (P := Try.prog) w1 28 9 5 w'.heap.size cap k.size init (x.toNat + (1 + st)) (by omega) HL.out _ Try.underlying28 Try.underlying5 Try.underlying9 HC.out hcl
      have hs2 := size_of_list k2 _ hk2
      simp only [List.length_append, List.length_singleton] at hs2
      have HN := spread_ne init x z m _ HM.out hz (by have := HM.out; rcases this with rfl | rfl <;> omega)
      rw [← HK.out, ← hk2] at HN
      have e1 := shard_yes k2 m hm0 hm1 (by omega) (by omega)
      have HE : Hid (shardV k2 m = (hashOf k2.data.toList : Int) % m ∧ shardE k2 m = 0) := e1
      have hs9 : k2.size ≤ 8 := by omega
      clear hz e1 hk2 hs2
      go_wp2_with fail
      refine (pshard_any k2 _ _ (by unfold maxLen; omega)).mono ?_
      rintro e w2 ⟨rfl, rfl⟩
      rw [HE.out.1, HE.out.2]
      generalize (hashOf k2.data.toList : Int) = h2 at *
      generalize (hashOf k.data.toList : Int) = h1 at *
      have ha0 : 0 ≤ h1 % m := Int.emod_nonneg _ (by omega)
      have ha1 : h1 % m < m := Int.emod_lt_of_pos _ (by omega)
      have hb0 : 0 ≤ h2 % m := Int.emod_nonneg _ (by omega)
      have hb1 : h2 % m < m := Int.emod_lt_of_pos _ (by omega)
      go_wp2_with fail
      go_ret
      exact ⟨rfl, hbel.setCell (Nat.le_refl _) _⟩
end Go.Proofs.Ytneepapppbchnaa
