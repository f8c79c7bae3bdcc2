/- The document's own Number, right and Recorded. -/
import Derived.Test.YtneepapppbchnaaOwn
import Derived.Test.YtneepapppbchnaaFrame
namespace Go.Proofs.Ytneepapppbchnaa
open Go.RowKit Go.BigFrame
set_option linter.unusedVariables false

theorem less_total : ∀ (a b : List UInt8), (Op.bytesLess a b || a == b) = !(Op.bytesLess b a) := by
  intro a
  induction a with
  | nil => intro b; cases b <;> simp [Op.bytesLess]
  | cons x a ih =>
    intro b
    cases b with
    | nil => simp [Op.bytesLess]
    | cons y b =>
      have := ih b
      by_cases h1 : x < y
      · have h2 : ¬ y < x := by simp only [UInt8.lt_iff_toNat_lt] at *; omega
        have h3 : (y == x) = false := by rw [beq_eq_false_iff_ne]; rintro rfl; simp only [UInt8.lt_iff_toNat_lt] at h1; omega
        simp [Op.bytesLess, h1, h2, h3]
      · by_cases h4 : x = y
        · subst h4
          simpa [Op.bytesLess] using this
        · have h2 : y < x := by
            have h5 : x.toNat ≠ y.toNat := fun h => h4 (UInt8.toNat_inj.1 h)
            simp only [UInt8.lt_iff_toNat_lt] at *; omega
          have h3 : (x == y) = false := by rw [beq_eq_false_iff_ne]; exact h4
          simp [Op.bytesLess, h1, h2, h3]

set_option maxHeartbeats 400000 in
set_option maxRecDepth 100000 in
theorem number_any (v n : Nat) (w : World) (hv : v < 9223372036854775808) (hn : n ≤ 8) :
    Calls Try.prog 43 #[.int .i64 v, .int .i64 n] w fun e w' => e = .returned (.string (textOf (numL v n))) ∧ Below w.heap.size w w' := by
  go_enter Try.func43, Try.ntmps43
  go_wp2
  go_loopw [0, 5, 6] (fun u s i wr => ∃ k : Nat, k ≤ n ∧ i = .int .i64 k ∧ u = .int .i64 (v / 256 ^ k : Nat) ∧ s = .string (textOf (numL v k)) ∧ Below w.heap.size w wr) (fun _ _ i _ => n - (intOf i).toNat)
  case atStart => exact ⟨0, Nat.zero_le _, rfl, by simp, rfl, Below.refl _ _⟩
  case round =>
    obtain ⟨k, hk, rfl, rfl, rfl, hb⟩ := hrel
    have hq : v / 256 ^ k < 9223372036854775808 := Nat.lt_of_le_of_lt (Nat.div_le_self _ _) hv
    by_cases hlt : k < n
    · have HN : Hid (numL v (k + 1) = [UInt8.ofNat (v / 256 ^ k % 256)] ++ numL v k) := numL_succ v k
      have HQ : Hid (v / 256 ^ (k + 1) = v / 256 ^ k / 256) := by
        show _ = _
        rw [Nat.pow_succ, Nat.div_div_eq_div_mul]
      generalize v / 256 ^ k = q at *
      have hc := fun (W : World) => toText (P := Try.prog) (W.alloc (.cells #[.int .u8 ((q : Int) % 256)] 5)) 28 9 5 W.heap.size 1 1 [UInt8.ofNat (q % 256)] rfl Try.underlying28 Try.underlying5 Try.underlying9 (by
        intro j hj
        obtain rfl : j = 0 := by simpa using hj
        have : (UInt8.ofNat (q % 256)).toNat = q % 256 := UInt8.toNat_ofNat_of_lt' (Nat.mod_lt _ (by decide))
        simp [this])
      have hz : (textOf (numL v k)).size ≤ 8 := by rw [textOf_size, numL_length]; omega
      go_wp2_with fail
      go_roundw
      case rel => exact ⟨k + 1, by omega, by go_num, by rw [HQ.out]; go_num, by rw [HN.out, ← textOf_append]; rfl, hb.alloc hb.size _⟩
      case measure => simp [intOf]; omega
    · obtain rfl : k = n := by omega
      go_wp2
      go_ret
      exact ⟨rfl, hb⟩

theorem wrB_of (r : WrL) : wrB r = true ↔ (keyB r.key = true ∧ r.value.size ≤ 16 ∧ ¬ (r.dead = true ∧ r.value.size ≠ 0)) := by
  constructor
  · intro h
    have h1 := of_decide_eq_true (show decide _ = true from h)
    exact ⟨h1.2.1, h1.2.2, h1.1⟩
  · intro h
    exact wrB_yes ⟨h.2.2, h.1, h.2.1⟩
/-- the answer is whether all of them are right -/
def AllOk (ws : List WrL) (e : Ending) : Prop := ∃ d : Bool, e = .returned (.bool d) ∧ (d = true ↔ ∀ i, i < ws.length → okAt ws i)
set_option maxHeartbeats 1000000 in
set_option maxRecDepth 100000 in
theorem right_some (ws : List WrL) (b off cap most : Nat) (w : World) (hs : SizedAll ws) (h1 : 1 ≤ ws.length) (h6 : ws.length ≤ most) (h7 : most ≤ 6) (hc : CellsAt w b off ws) :
    Calls Try.prog 56 #[.slice (some ⟨b, off, none⟩) ws.length cap, .int .i64 most] w fun e w' => AllOk ws e ∧ Below w.heap.size w w' := by
  have g1 : decide ((ws.length : Int) < 1) = false := by simp; omega
  have g2 : decide ((most : Int) < (ws.length : Int)) = false := by simp; omega
  have g2n : decide (most < ws.length) = false := by simp; omega
  go_enter Try.func56, Try.ntmps56
  go_wp2
  go_loopw [5, 6] (fun i _ wr => ∃ k : Nat, k ≤ ws.length ∧ i = .int .i64 k ∧ (∀ j, j < k → okAt ws j) ∧ Below w.heap.size w wr) (fun i _ _ => ws.length - (intOf i).toNat)
  case atStart => exact ⟨0, Nat.zero_le _, rfl, fun _ h => absurd h (by omega), Below.refl _ _⟩
  case round =>
    obtain ⟨k, hk, rfl, hok, hbel⟩ := hrel
    have HO : Hid (∀ j, j < k → okAt ws j) := hok
    clear hok
    by_cases hlt : k < ws.length
    · obtain ⟨c0, c1, c2⟩ := (hc.below hbel) k hlt
      have HS : Hid (okAt ws k ↔ wrB ws[k] = true ∧ (0 < k → Op.bytesLess ws[k - 1].key.toList ws[k].key.toList = true)) := ⟨fun h => h hlt, fun h _ => h⟩
      obtain ⟨hsz, hsv⟩ := hs k hlt
      generalize hr : ws[k] = r at *
      clear hr
      have HW : Hid (wrB r = true ↔ (keyB r.key = true ∧ r.value.size ≤ 16 ∧ ¬ (r.dead = true ∧ r.value.size ≠ 0))) := wrB_of r
      have ended : ∀ {p : Prop}, ¬ okAt ws k → (false = true ↔ ∀ i, i < ws.length → okAt ws i) := by
        intro _ h
        simp only [Bool.false_eq_true, false_iff]
        exact fun hall => h (hall k hlt)
      have HEND : Hid (¬ okAt ws k → (false = true ↔ ∀ i, i < ws.length → okAt ws i)) := fun h => ended (p := True) h
      clear ended
      cases hkey : keyB r.key
      · go_wp2_with fail
        refine (isKeyR_any r.key _ hsz).mono ?_
        rintro e w' ⟨rfl, rfl⟩
        go_wp2_with fail
        go_ret
        exact ⟨⟨_, rfl, HEND.out (fun h => by have := (HW.out.1 (HS.out.1 h).1).1; rw [hkey] at this; cases this)⟩, hbel⟩
      · unfold maxLen at hsv
        by_cases hval : r.value.size ≤ 16
        · by_cases hdead : r.dead = true ∧ r.value.size ≠ 0
          · obtain ⟨hd, hv0⟩ := hdead
            have hve : r.value.toList.isEmpty = false := by rw [empty_iff]; simpa using hv0
            go_wp2_with fail
            refine (isKeyR_any r.key _ hsz).mono ?_
            rintro e w' ⟨rfl, rfl⟩
            go_wp2_with fail
            go_ret
            exact ⟨⟨_, rfl, HEND.out (fun h => (HW.out.1 (HS.out.1 h).1).2.2 ⟨hd, hv0⟩)⟩, hbel⟩
          · have HG : Hid (wrB r = true) := HW.out.2 ⟨hkey, hval, hdead⟩
            have hpick : r.dead = false ∨ r.dead = true ∧ r.value.toList.isEmpty = true := by
              cases hd : r.dead
              · exact .inl rfl
              · refine .inr ⟨rfl, ?_⟩
                rw [empty_iff]; simp [hd] at hdead; simpa using hdead
            clear hdead
            have g16 : decide (16 < (r.value.size : Int)) = false := by simp; omega
            by_cases hk0 : k < 1
            · have g3 : decide (0 < (k : Int)) = false := by simp; omega
              have g3n : decide (0 < k) = false := by simp; omega
              rcases hpick with hd | ⟨hd, hve⟩
              all_goals
                go_wp2_with fail
                refine (isKeyR_any r.key _ hsz).mono ?_
                rintro e w' ⟨rfl, rfl⟩
                go_wp2_with fail
                go_quiet (fail)
                go_wp2_with fail
                go_roundw
                case rel => exact ⟨k + 1, by omega, by go_num, ok_next HO.out (HS.out.2 ⟨HG.out, fun h => absurd h (by omega)⟩), below_drewN hbel nq⟩
                case measure => simp [intOf]; omega
            · have g3 : decide (0 < (k : Int)) = true := by simp; omega
              have g3n : decide (0 < k) = true := by simp; omega
              have g4 : (1 : Int) ≤ (k : Int) := by omega
              have p0 := ((hc.below hbel) (k - 1) (by omega)).1
              generalize hpk : ws[k - 1].key = pk at *
              clear hpk
              have htot := less_total r.key.toList pk.toList
              cases hless : Op.bytesLess pk.toList r.key.toList
              · rw [hless] at htot
                simp only [Bool.not_false] at htot
                rcases hpick with hd | ⟨hd, hve⟩
                all_goals
                  go_wp2_with fail
                  refine (isKeyR_any r.key _ hsz).mono ?_
                  rintro e w' ⟨rfl, rfl⟩
                  go_wp2_with fail
                  go_quiet (fail)
                  go_wp2_with fail
                  go_ret
                  exact ⟨⟨_, rfl, HEND.out (fun h => by have := (HS.out.1 h).2 (by omega); rw [hless] at this; cases this)⟩, below_drewN hbel nq⟩
              · rw [hless] at htot
                simp only [Bool.not_true] at htot
                rcases hpick with hd | ⟨hd, hve⟩
                all_goals
                  go_wp2_with fail
                  refine (isKeyR_any r.key _ hsz).mono ?_
                  rintro e w' ⟨rfl, rfl⟩
                  go_wp2_with fail
                  go_quiet (fail)
                  go_wp2_with fail
                  go_roundw
                  case rel => exact ⟨k + 1, by omega, by go_num, ok_next HO.out (HS.out.2 ⟨HG.out, fun _ => hless⟩), below_drewN hbel nq⟩
                  case measure => simp [intOf]; omega
        · go_wp2_with fail
          refine (isKeyR_any r.key _ hsz).mono ?_
          rintro e w' ⟨rfl, rfl⟩
          go_wp2_with fail
          go_ret
          exact ⟨⟨_, rfl, HEND.out (fun h => hval (HW.out.1 (HS.out.1 h).1).2.1)⟩, hbel⟩
    · go_wp2
      go_ret
      exact ⟨⟨_, rfl, by simp; exact fun i hi => HO.out i (by omega)⟩, hbel⟩
end Go.Proofs.Ytneepapppbchnaa
