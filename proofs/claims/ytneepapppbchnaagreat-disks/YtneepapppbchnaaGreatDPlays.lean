/- The walk of plays and of Disks: a script that came in. -/
import Derived.Test.YtneepapppbchnaaGreatDBegins
namespace Go.Proofs.YtneepapppbchnaaGreat
open Go.RowKit
set_option linter.unusedVariables false

/-- a step of a script -/
structure OpL where
  kd : Int
  on : Int
  a : Int
  b : Int
  s : List UInt8
  t : List UInt8
  sh : Int
  la : Int
  rk : Int
  rt : Int
  rg : Int
  a1 : Option Addr
  n1 : Nat
  c1 : Nat
  a2 : Option Addr
  n2 : Nat
  c2 : Nat
  a3 : Option Addr
  n3 : Nat
  c3 : Nat
def OpL.sized (o : OpL) : Prop := o.s.length ≤ 140737488355328 ∧ o.b < 9223372036854775808 ∧ -9223372036854775808 ≤ o.on ∧ o.on < 9223372036854775808
/-- its cells lie in block g from offset p on -/
structure OpAt (w : World) (g p : Nat) (o : OpL) : Prop where
  z0 : w.cell? ⟨g, p, none⟩ = some (.int .i64 o.kd)
  z1 : w.cell? ⟨g, p + 1, none⟩ = some (.int .i64 o.on)
  z2 : w.cell? ⟨g, p + 2, none⟩ = some (.int .i64 o.a)
  z3 : w.cell? ⟨g, p + 3, none⟩ = some (.int .i64 o.b)
  z4 : w.cell? ⟨g, p + 4, none⟩ = some (.string (textOf o.s))
  z5 : w.cell? ⟨g, p + 5, none⟩ = some (.string (textOf o.t))
  z6 : w.cell? ⟨g, p + 6, none⟩ = some (.int .i64 o.sh)
  z7 : w.cell? ⟨g, p + 7, none⟩ = some (.int .i64 o.la)
  z8 : w.cell? ⟨g, p + 8, none⟩ = some (.int .i64 o.rk)
  z9 : w.cell? ⟨g, p + 9, none⟩ = some (.int .i64 o.rt)
  z10 : w.cell? ⟨g, p + 10, none⟩ = some (.int .i64 o.rg)
  z11 : w.cell? ⟨g, p + 11, none⟩ = some (.slice o.a1 o.n1 o.c1)
  z12 : w.cell? ⟨g, p + 12, none⟩ = some (.slice o.a2 o.n2 o.c2)
  z13 : w.cell? ⟨g, p + 13, none⟩ = some (.slice o.a3 o.n3 o.c3)
theorem OpAt.below {w w' : World} {B g p : Nat} {o : OpL} (h : OpAt w g p o) (hb : Below B w w') (hg : g < B) : OpAt w' g p o := by
  have e : ∀ q, w'.cell? ⟨g, q, none⟩ = w.cell? ⟨g, q, none⟩ := fun q => hb.cell (p := ⟨g, q, none⟩) hg
  obtain ⟨z0, z1, z2, z3, z4, z5, z6, z7, z8, z9, z10, z11, z12, z13⟩ := h
  constructor <;> (rw [e]; assumption)
/-- the script that came in -/
def Script (w : World) (v : Value) (ops : List OpL) : Prop := (v = .slice none 0 0 ∧ ops = []) ∨ ∃ g p cap, v = .slice (some ⟨g, p, none⟩) ops.length cap ∧ ∀ i (h : i < ops.length), OpAt w g (p + i * 14) ops[i]
set_option maxRecDepth 100000 in
set_option maxHeartbeats 1000000 in
theorem plays_some (g p cap : Nat) (ops : List OpL) (w : World) (hops : ∀ i (h : i < ops.length), OpAt w g (p + i * 14) ops[i]) (hsz : ∀ i (h : i < ops.length), ops[i].sized) (hlen : ops.length ≤ 1000000000000) :
    Calls Tryz.prog 8 #[.slice (some ⟨g, p, none⟩) ops.length cap, .int .i64 10, .int .i64 16] w fun e w' => e = .returned (.bool true) ∧ Below w.heap.size w w' := by
  have HOP := hide hops
  have HSZ := hide hsz
  clear hops hsz
  go_enter Tryz.func8, Tryz.ntmps8
  go_wp2_with fail
  refine (begins_disks _).mono ?_
  rintro e w1 ⟨rfl, hB1⟩
  have HW := hide (WA.fresh w1 w.heap.size hB1.size)
  have HB1 := hide (hB1.trans ((box_below w1 (.cells #[.slice none 0 0, .slice none 0 0, .slice none 0 0, .slice none 0 0, .slice none 0 0, .slice none 0 0] 55)).mono hB1.size))
  clear hB1
  go_wp2_with fail
  go_loopw [7, 9, 10, 11] (fun _ i _ _ wr => ∃ k : Nat, k ≤ ops.length ∧ i = .int .i64 (k : Int) ∧ (∃ v pls P, WA wr w1.heap.size v pls k w.heap.size P ∧ pls.length ≤ k) ∧ Below w.heap.size w wr) (fun _ i _ _ _ => ops.length - (intOf i).toNat)
  case atStart => exact ⟨0, Nat.zero_le _, rfl, ⟨_, [], _, HW.out, Nat.zero_le _⟩, HB1.out⟩
  case round =>
    obtain ⟨k, hk, rfl, ⟨v, pls, P, hwa, hpl⟩, hbel⟩ := hrel
    by_cases hkl : k < ops.length
    · have hglt : g < w.heap.size := World.block_lt_of_cell? w _ (HOP.out k hkl).z0
      obtain ⟨z0, z1, z2, z3, z4, z5, z6, z7, z8, z9, z10, z11, z12, z13⟩ := (HOP.out k hkl).below hbel hglt
      have hsd := HSZ.out k hkl
      have hki : (k : Int) < 1152921504606846976 := by omega
      generalize ops[k] = o at *
      obtain ⟨kd, on, a, b, s, t, sh, la, rk, rt, rg, a1, n1, c1, a2, n2, c2, a3, n3, c3⟩ := o
      dsimp only at z0 z1 z2 z3 z4 z5 z6 z7 z8 z9 z10 z11 z12 z13
      have HSD := hide hsd
      have HWA := hide hwa
      have HBE := hide hbel
      clear hsd hwa hbel
      have HNX : Hid (∀ ob, (∃ v pls P, WA (wr.alloc ob) w1.heap.size v pls (k + 1) w.heap.size P ∧ pls.length ≤ k + 1) ∧ Below w.heap.size w (wr.alloc ob)) := by
        intro ob
        exact ⟨⟨v, pls, P, (HWA.out.kept ((Only.refl _ wr).alloc ob)).later, by omega⟩, HBE.out.alloc HBE.out.size _⟩
      by_cases hkd : kd < 10 ∨ 16 < kd
      · by_cases hk10 : kd < 10
        · go_wp2_with fail
          refine ⟨⟨k + 1, by omega, by go_num, (HNX.out _).1, (HNX.out _).2⟩, ?_⟩
          simp [intOf]; omega
        · have hk16 : 16 < kd := by omega
          go_wp2_with fail
          refine ⟨⟨k + 1, by omega, by go_num, (HNX.out _).1, (HNX.out _).2⟩, ?_⟩
          simp [intOf]; omega
      · have k1 : ¬ kd < 10 := by omega
        have k2 : ¬ 16 < kd := by omega
        have HST : Hid (∀ ob, Calls Tryz.prog 19 #[.pointer (some ⟨w1.heap.size, 0, none⟩), .agg #[.int .i64 kd, .int .i64 on, .int .i64 a, .int .i64 b, .string (textOf s), .string (textOf t), .int .i64 sh, .int .i64 la, .int .i64 rk, .int .i64 rt, .int .i64 rg, .slice a1 n1 c1, .slice a2 n2 c2, .slice a3 n3 c3]] (wr.alloc ob) fun e w' => e = .returned (.bool true) ∧ (∃ v pls P, WA w' w1.heap.size v pls (k + 1) w.heap.size P ∧ pls.length ≤ k + 1) ∧ Below w.heap.size w w') := by
          intro ob
          have hwx := HWA.out.kept ((Only.refl (fun _ => False) wr).alloc ob)
          have hbx : Below w.heap.size w (wr.alloc ob) := HBE.out.alloc HBE.out.size _
          by_cases h10 : kd = 10
          · subst h10
            refine (step_disk _ k w.heap.size v pls P on a b sh la rk rt rg s t a1 a2 a3 n1 c1 n2 c2 n3 c3 _ hwx (by omega)).mono ?_
            rintro e w' ⟨rfl, ⟨⟨v', pls', P', q1, q2⟩, q3⟩⟩
            exact ⟨rfl, ⟨v', pls', P', q1, by omega⟩, hbx.trans q3⟩
          · by_cases h0 : 0 < pls.length
            · refine (step_file _ k w.heap.size P v pls kd on a b sh la rk rt rg s t a1 a2 a3 n1 c1 n2 c2 n3 c3 _ hwx h0 (by omega) (by omega) (by omega) HSD.out.1 HSD.out.2.1 HSD.out.2.2).mono ?_
              rintro e w' ⟨rfl, ⟨⟨v', pls', P', q1, q2⟩, q3⟩⟩
              exact ⟨rfl, ⟨v', pls', P', q1, by omega⟩, hbx.trans q3⟩
            · obtain rfl : pls = [] := List.eq_nil_of_length_eq_zero (by omega)
              refine (step_none _ k w.heap.size P v kd on a b sh la rk rt rg s t a1 a2 a3 n1 c1 n2 c2 n3 c3 _ hwx (by omega)).mono ?_
              rintro e w' ⟨rfl, ⟨⟨v', pls', P', q1, q2⟩, q3⟩⟩
              exact ⟨rfl, ⟨v', pls', P', q1, by omega⟩, hbx.trans q3⟩
        go_wp2_with fail
        refine (HST.out _).mono ?_
        rintro e w2 ⟨rfl, ⟨v', pls', P', q1, q2⟩, q3⟩
        have HQ1 := hide q1
        have HQ3 := hide q3
        clear q1 q3 HST HNX
        go_wp2_with fail
        refine (looks_nil _ _ HQ1.out.c).mono ?_
        rintro e w3 ⟨rfl, rfl⟩
        go_wp2_with fail
        go_roundw
        case rel => exact ⟨k + 1, by omega, by go_num, ⟨v', pls', P', HQ1.out, q2⟩, HQ3.out⟩
        case measure => simp [intOf]; omega
    · go_wp2_with fail
      go_ret
      exact ⟨rfl, hbel⟩
theorem plays_nil (w : World) : Calls Tryz.prog 8 #[.slice none 0 0, .int .i64 10, .int .i64 16] w fun e w' => e = .returned (.bool true) ∧ Below w.heap.size w w' := by
  go_enter Tryz.func8, Tryz.ntmps8
  go_wp2_with fail
  refine (begins_disks _).mono ?_
  rintro e w1 ⟨rfl, hB1⟩
  have HB1 := hide (hB1.trans ((box_below w1 (.cells #[.slice none 0 0, .slice none 0 0, .slice none 0 0, .slice none 0 0, .slice none 0 0, .slice none 0 0] 55)).mono hB1.size))
  clear hB1
  go_wp2_with fail
  go_loopw [7, 9, 10, 11] (fun _ i _ _ wr => i = .int .i64 0 ∧ Below w.heap.size w wr) (fun _ _ _ _ _ => 0)
  case atStart => exact ⟨rfl, HB1.out⟩
  case round =>
    obtain ⟨rfl, hbel⟩ := hrel
    go_wp2_with fail
    go_ret
    exact ⟨rfl, hbel⟩
theorem Disks_any (v : Value) (ops : List OpL) (w : World) (hv : Script w v ops) (hsz : ∀ i (h : i < ops.length), ops[i].sized) (hlen : ops.length ≤ 1000000000000) :
    Calls Tryz.prog 3 #[v] w fun e w' => e = .returned (.bool true) ∧ Below w.heap.size w w' := by
  rcases hv with ⟨rfl, rfl⟩ | ⟨g, p, cap, rfl, hops⟩
  · go_enter Tryz.func3, Tryz.ntmps3
    go_wp2_with fail
    refine (plays_nil _).mono ?_
    rintro e w1 ⟨rfl, hB⟩
    go_wp2_with fail
    go_ret
    exact ⟨rfl, hB⟩
  · have HP := hide (plays_some g p cap ops w hops hsz hlen)
    clear hops hsz
    go_enter Tryz.func3, Tryz.ntmps3
    go_wp2_with fail
    refine HP.out.mono ?_
    rintro e w1 ⟨rfl, hB⟩
    go_wp2_with fail
    go_ret
    exact ⟨rfl, hB⟩
end Go.Proofs.YtneepapppbchnaaGreat
