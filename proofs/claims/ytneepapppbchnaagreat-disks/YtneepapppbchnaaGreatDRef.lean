/- The disk of the document's answer: its cells; the walks of turn, all, Append, Sync. -/
import Derived.Test.YtneepapppbchnaaGreatDCrash
namespace Go.Proofs.YtneepapppbchnaaGreat
open Go.RowKit
set_option linter.unusedVariables false

def upd {α : Type} (f : Nat → α) (k : Nat) (x : α) : Nat → α := fun j => if j = k then x else f j
theorem upd_at {α : Type} (f : Nat → α) (k : Nat) (x : α) : upd f k x k = x := if_pos rfl
theorem upd_ne {α : Type} (f : Nat → α) {k j : Nat} (x : α) (h : j ≠ k) : upd f k x j = f j := if_neg h
theorem upd_upd {α : Type} (f : Nat → α) (k : Nat) (x y : α) : upd (upd f k x) k y = upd f k y := by
  funext j; unfold upd; split <;> rfl
/-- the same but for what was drawn -/
structure Like (w w' : World) : Prop where
  os : w'.os = w.os
  tape : w'.tape = w.tape
  output : w'.output = w.output
  heap : w'.heap = w.heap
theorem Like.refl (w : World) : Like w w := ⟨rfl, rfl, rfl, rfl⟩
theorem Like.drew {w w' : World} (h : Like w w') : Like w w'.drew := ⟨h.os, h.tape, h.output, h.heap⟩
theorem Like.drewN {w w' : World} (h : Like w w') (n : Nat) : Like w (w'.drewN n) := ⟨h.os, h.tape, h.output, h.heap⟩
theorem Like.only {w w' : World} (h : Like w w') (S : Nat → Prop) : Only S w w' := ⟨h.os, h.tape, h.output, by rw [h.heap]; exact Nat.le_refl _, fun k _ _ => by rw [h.heap]⟩
theorem Like.cell {w w' : World} (h : Like w w') (a : Addr) : w'.cell? a = w.cell? a := by unfold World.cell?; rw [h.heap]
theorem Like.frozen {w w' : World} (h : Like w w') (a : Addr) : w'.frozen? a = w.frozen? a := by unfold World.frozen?; rw [h.heap]
def cellR (m : Fm) : Nat → Value
  | 0 => .string (textOf m.lasts)
  | 1 => .string (textOf m.late)
  | 2 => .int .i64 (m.turns : Int)
  | _ => .int .i64 (m.due : Int)
/-- the document's disk lies in block r -/
structure RD (w : World) (r : Nat) (fs : Nat → Fm) (us st : Int) : Prop where
  c : ∀ k, k < 7 → ∀ j, j < 4 → w.cell? ⟨r, k * 4 + j, none⟩ = some (cellR (fs k) j)
  u : w.cell? ⟨r, 28, none⟩ = some (.int .i64 us)
  s : w.cell? ⟨r, 29, none⟩ = some (.int .i64 st)
  fz : ∀ o, w.frozen? ⟨r, o, none⟩ = false
theorem RD.like {w w' : World} {r : Nat} {fs : Nat → Fm} {us st : Int} (h : RD w r fs us st) (hl : Like w w') : RD w' r fs us st :=
  ⟨fun k hk j hj => (hl.cell _).trans (h.c k hk j hj), (hl.cell _).trans h.u, (hl.cell _).trans h.s, fun o => (hl.frozen _).trans (h.fz o)⟩
theorem RD.lt {w : World} {r : Nat} {fs : Nat → Fm} {us st : Int} (h : RD w r fs us st) : r < w.heap.size := World.block_lt_of_cell? w _ h.u
theorem RD.kept {w w' : World} {r : Nat} {fs : Nat → Fm} {us st : Int} {S : Nat → Prop} (h : RD w r fs us st) (ho : Only S w w') (hr : ¬ S r) : RD w' r fs us st := by
  have e := ho.block r h.lt hr
  exact ⟨fun k hk j hj => (World.cell?_of_block e).trans (h.c k hk j hj), (World.cell?_of_block e).trans h.u, (World.cell?_of_block e).trans h.s, fun o => (World.frozen?_of_block e).trans (h.fz o)⟩
theorem RD.put {w : World} {r : Nat} {fs : Nat → Fm} {us st : Int} (h : RD w r fs us st) {k i : Nat} (hk : k < 7) (hi : i < 4) (v : Value) (m : Fm) (hv : cellR m i = v) (hm : ∀ j, j < 4 → j ≠ i → cellR m j = cellR (fs k) j) : RD (w.setCell ⟨r, k * 4 + i, none⟩ v) r (upd fs k m) us st := by
  refine ⟨fun k' hk' j hj => ?_, (set_off _ (by omega)).trans h.u, (set_off _ (by omega)).trans h.s, fun o => by rw [World.frozen?_setCell]; exact h.fz o⟩
  by_cases hkk : k' = k
  · subst hkk
    rw [upd_at]
    by_cases hji : j = i
    · subst hji
      rw [hv]
      exact set_same _ (h.c k' hk j hj)
    · rw [hm j hj hji, set_off _ (by omega)]
      exact h.c k' hk j hj
  · rw [upd_ne _ _ hkk, set_off _ (by omega)]
    exact h.c k' hk' j hj
theorem RD.c0 {w : World} {r : Nat} {fs : Nat → Fm} {us st : Int} (h : RD w r fs us st) {k : Nat} (hk : k < 7) : w.cell? ⟨r, k * 4, none⟩ = some (.string (textOf (fs k).lasts)) := h.c k hk 0 (by omega)
theorem RD.c1 {w : World} {r : Nat} {fs : Nat → Fm} {us st : Int} (h : RD w r fs us st) {k : Nat} (hk : k < 7) : w.cell? ⟨r, k * 4 + 1, none⟩ = some (.string (textOf (fs k).late)) := h.c k hk 1 (by omega)
theorem RD.c2 {w : World} {r : Nat} {fs : Nat → Fm} {us st : Int} (h : RD w r fs us st) {k : Nat} (hk : k < 7) : w.cell? ⟨r, k * 4 + 2, none⟩ = some (.int .i64 ((fs k).turns : Int)) := h.c k hk 2 (by omega)
theorem RD.c3 {w : World} {r : Nat} {fs : Nat → Fm} {us st : Int} (h : RD w r fs us st) {k : Nat} (hk : k < 7) : w.cell? ⟨r, k * 4 + 3, none⟩ = some (.int .i64 ((fs k).due : Int)) := h.c k hk 3 (by omega)
theorem only_set (w : World) (r o : Nat) (v : Value) : Only (fun x => x = r) w (w.setCell ⟨r, o, none⟩ v) := (Only.refl (fun x => x = r) w).setCell r o v (.inl rfl)
theorem Only.then {r : Nat} {w w1 w2 : World} (h : Only (fun x => x = r) w w1) (h2 : Only (fun x => x = r) w1 w2) : Only (fun x => x = r) w w2 := h.trans h2 (fun _ _ q => q)
def Fm.tick (m : Fm) : Fm := { m with turns := m.turns + 1 }
def Fm.fails (m : Fm) : Prop := m.turns + 1 = m.due
def failE (m : Fm) : Int := if m.turns + 1 = m.due then 3 else 0
theorem failE_pos {m : Fm} (h : m.fails) : failE m = 3 := if_pos h
theorem failE_neg {m : Fm} (h : ¬ m.fails) : failE m = 0 := if_neg h
theorem rturn_out (r : Nat) (f : Int) (w : World) (hf : f < 0 ∨ 7 ≤ f) :
    Calls Tryz.prog 156 #[.pointer (some ⟨r, 0, none⟩), .int .i64 f] w fun e w' => e = .returned (.int .i64 2) ∧ w' = w := by
  by_cases h0 : f < 0
  · go_enter Tryz.func156, Tryz.ntmps156
    go_wp2_with fail
    go_ret
    exact ⟨rfl, rfl⟩
  · have h7 : 7 ≤ f := by omega
    go_enter Tryz.func156, Tryz.ntmps156
    go_wp2_with fail
    go_ret
    exact ⟨rfl, rfl⟩
set_option maxRecDepth 100000 in
theorem rturn_in (r k : Nat) (fs : Nat → Fm) (us st : Int) (w : World) (h : RD w r fs us st) (hk : k < 7) (ht : (fs k).turns < 4611686018427387904) (hd : (fs k).due < 9223372036854775808) :
    Calls Tryz.prog 156 #[.pointer (some ⟨r, 0, none⟩), .int .i64 (k : Int)] w fun e w' => e = .returned (.int .i64 (failE (fs k))) ∧ RD w' r (upd fs k (fs k).tick) us st ∧ Only (fun x => x = r) w w' := by
  obtain ⟨ev, hev⟩ : ∃ ev : Int, ev = failE (fs k) := ⟨_, rfl⟩
  rw [← hev]
  have HEV := hide hev
  clear hev
  have c2 := h.c2 hk
  have c3 := h.c3 hk
  have f2 := h.fz (k * 4 + 2)
  have HP : Hid (∀ w1, Like w w1 → RD (w1.setCell ⟨r, k * 4 + 2, none⟩ (.int .i64 (((fs k).turns : Int) + 1))) r (upd fs k (fs k).tick) us st) := by
    intro w1 hl
    refine (h.like hl).put hk (by omega) _ _ rfl ?_
    intro j hj hj2
    match j, hj with
    | 0, _ => rfl
    | 1, _ => rfl
    | 2, _ => exact absurd rfl hj2
    | 3, _ => rfl
  have HF : Hid ((fs k).fails ↔ ((fs k).turns : Int) + 1 = ((fs k).due : Int)) := by
    show _ ↔ _
    unfold Fm.fails; omega
  generalize (fs k).turns = tn at *
  generalize (fs k).due = dn at *
  have hk0 : (0 : Int) ≤ (k : Int) := by omega
  have hk7 : (k : Int) < 7 := by omega
  have c3' : ∀ w1, Like w w1 → (w1.setCell ⟨r, k * 4 + 2, none⟩ (.int .i64 ((tn : Int) + 1))).cell? ⟨r, k * 4 + 3, none⟩ = some (.int .i64 (dn : Int)) := fun w1 hl => ((set_off _ (by omega)).trans (hl.cell _)).trans c3
  clear h
  go_enter Tryz.func156, Tryz.ntmps156
  go_wp2_with fail
  go_region
  have q2 : ((w.setCell ⟨r, k * 4 + 2, none⟩ (.int .i64 ((tn : Int) + 1))).drew).cell? ⟨r, k * 4 + 2, none⟩ = some (.int .i64 ((tn : Int) + 1)) := set_same _ c2
  have q3 : ((w.setCell ⟨r, k * 4 + 2, none⟩ (.int .i64 ((tn : Int) + 1))).drew).cell? ⟨r, k * 4 + 3, none⟩ = some (.int .i64 (dn : Int)) := c3' w (Like.refl w)
  have hR : RD ((w.setCell ⟨r, k * 4 + 2, none⟩ (.int .i64 ((tn : Int) + 1))).drew) r (upd fs k (fs k).tick) us st := (HP.out w (Like.refl w)).like (Like.refl _).drew
  have hO : Only (fun x => x = r) w ((w.setCell ⟨r, k * 4 + 2, none⟩ (.int .i64 ((tn : Int) + 1))).drew) := (only_set w _ _ _).drew
  generalize (w.setCell ⟨r, k * 4 + 2, none⟩ (.int .i64 ((tn : Int) + 1))).drew = W1 at *
  have HR := hide hR
  have HO := hide hO
  clear hR hO c2 c3 c3' f2 HP
  by_cases hfl : (tn : Int) + 1 = (dn : Int)
  · have hb : ((tn : Int) + 1 == (dn : Int)) = true := by rw [hfl]; exact beq_self_eq_true _
    have he : ev = 3 := by rw [HEV.out, failE_pos (HF.out.2 hfl)]
    have HFL := hide hfl
    have HE := hide he
    clear hfl he
    go_wp2_with fail
    go_quiet (fail)
    go_wp2_with fail
    go_ret
    exact ⟨by rw [HE.out]; rfl, HR.out.like ((Like.refl _).drewN _), HO.out.trans (((Like.refl _).drewN _).only (fun x => x = r)) (fun _ _ q => q)⟩
  · have hb : ((tn : Int) + 1 == (dn : Int)) = false := beq_eq_false_iff_ne.2 hfl
    have he : ev = 0 := by rw [HEV.out, failE_neg (fun q => hfl (HF.out.1 q))]
    have HFL := hide hfl
    have HE := hide he
    clear hfl he
    go_wp2_with fail
    go_quiet (fail)
    go_wp2_with fail
    go_ret
    exact ⟨by rw [HE.out]; rfl, HR.out.like ((Like.refl _).drewN _), HO.out.trans (((Like.refl _).drewN _).only (fun x => x = r)) (fun _ _ q => q)⟩
def Fm.all (m : Fm) : Fm := { m with lasts := m.bytes, late := [] }
set_option maxRecDepth 100000 in
theorem rall_in (r k : Nat) (fs : Nat → Fm) (us st : Int) (w : World) (h : RD w r fs us st) (hk : k < 7) (hl : (fs k).bytes.length ≤ 2000) :
    Calls Tryz.prog 157 #[.pointer (some ⟨r, 0, none⟩), .int .i64 (k : Int)] w fun e w' => e = .returned (.tuple #[]) ∧ RD w' r (upd fs k (fs k).all) us st ∧ Only (fun x => x = r) w w' := by
  have c0 := h.c0 hk
  have c1 := h.c1 hk
  have f0 := h.fz (k * 4)
  have f1 := h.fz (k * 4 + 1)
  have HP : Hid (∀ w1, Like w w1 → RD ((w1.setCell ⟨r, k * 4, none⟩ (.string (textOf (fs k).lasts ++ textOf (fs k).late))).setCell ⟨r, k * 4 + 1, none⟩ (.string ⟨#[]⟩)) r (upd fs k (fs k).all) us st) := by
    intro w1 hl
    have h1 := (h.like hl).put hk (i := 0) (by omega) (.string (textOf (fs k).lasts ++ textOf (fs k).late)) { fs k with lasts := (fs k).bytes } (by rw [textOf_append]; rfl) (fun j hj hj2 => by
      match j, hj with
      | 0, _ => exact absurd rfl hj2
      | 1, _ => rfl
      | 2, _ => rfl
      | 3, _ => rfl)
    have h2 := h1.put hk (i := 1) (by omega) (.string ⟨#[]⟩) (fs k).all rfl (fun j hj hj2 => by
      rw [upd_at]
      match j, hj with
      | 0, _ => rfl
      | 1, _ => exact absurd rfl hj2
      | 2, _ => rfl
      | 3, _ => rfl)
    rw [upd_upd] at h2
    exact h2
  have hsz : ¬ 9223372036854775807 < (textOf (fs k).lasts).size + (textOf (fs k).late).size := by
    unfold Fm.bytes at hl
    rw [List.length_append] at hl
    rw [textOf_size, textOf_size]
    omega
  generalize textOf (fs k).lasts = la at *
  generalize textOf (fs k).late = lt at *
  have hk0 : (0 : Int) ≤ (k : Int) := by omega
  have hk7 : (k : Int) < 7 := by omega
  clear h
  go_enter Tryz.func157, Tryz.ntmps157
  go_wp2_with fail
  go_region
  have q1 : ((w.setCell ⟨r, k * 4, none⟩ (.string (la ++ lt))).drew).cell? ⟨r, k * 4 + 1, none⟩ = some (.string lt) := (set_off _ (by omega)).trans c1
  go_wp2_with fail
  refine bodyPost_end (v := .tuple #[]) (by simp [results, Tryz.results157]) rfl ⟨rfl, ?_, ?_⟩
  · exact (HP.out w (Like.refl w)).like (Like.refl _).drew
  · exact ((only_set w _ _ _).then (only_set _ _ _ _)).drew
end Go.Proofs.YtneepapppbchnaaGreat
