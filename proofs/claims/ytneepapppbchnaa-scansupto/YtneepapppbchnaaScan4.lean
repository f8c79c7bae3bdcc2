/- The walk of Scan. -/
import Derived.Test.YtneepapppbchnaaScan3
namespace Go.Proofs.Ytneepapppbchnaa
open Go.RowKit
set_option linter.unusedVariables false

/-- a record, as it is read -/
structure RecL where
  kind : Nat
  time : Nat
  gen : Nat
  writes : List WrL
def recAt (l : List UInt8) : RecL := ⟨fK l, gT (fK l) (fP l), gG (fK l) (fP l), gW (fK l) (fP l)⟩
/-- how many bytes the first n frames have -/
def taken : Nat → List UInt8 → Nat
  | 0, _ => 0
  | n + 1, l => taken n l + (7 + fN (l.drop (taken n l)))
def recs (n : Nat) (l : List UInt8) : List RecL := (List.range n).map fun i => recAt (l.drop (taken i l))
def okN (n : Nat) (l : List UInt8) : Prop := ∀ i, i < n → fB (l.drop (taken i l)) = true
theorem recs_succ (n : Nat) (l : List UInt8) : recs (n + 1) l = recs n l ++ [recAt (l.drop (taken n l))] := by
  unfold recs; rw [List.range_succ, List.map_append]; rfl
theorem recs_length (n : Nat) (l : List UInt8) : (recs n l).length = n := by simp [recs]
theorem fB_len {l : List UInt8} (h : fB l = true) : 7 + fN l ≤ l.length := by
  unfold fB at h
  simp only [Bool.and_eq_true, decide_eq_true_eq] at h
  exact h.1.1.2
theorem taken_le (n : Nat) (l : List UInt8) (h : okN n l) : taken n l ≤ l.length ∧ 7 * n ≤ taken n l := by
  induction n with
  | zero => exact ⟨Nat.zero_le _, Nat.le_refl _⟩
  | succ n ih =>
    have h1 := ih (fun i hi => h i (by omega))
    have h2 := fB_len (h n (by omega))
    rw [List.length_drop] at h2
    show taken n l + (7 + fN (l.drop (taken n l))) ≤ _ ∧ 7 * (n + 1) ≤ taken n l + (7 + fN (l.drop (taken n l)))
    omega
theorem okN_succ {n : Nat} {l : List UInt8} (h : okN n l) (h1 : fB (l.drop (taken n l)) = true) : okN (n + 1) l := by
  intro i hi
  rcases Nat.lt_or_eq_of_le (Nat.le_of_lt_succ hi) with h2 | h2
  · exact h i h2
  · subst h2; exact h1
theorem okN_unique {n m : Nat} {l : List UInt8} (h : okN n l) (h1 : fB (l.drop (taken n l)) = false) (h' : okN m l) (h1' : fB (l.drop (taken m l)) = false) : n = m := by
  rcases Nat.lt_trichotomy n m with a | a | a
  · have := h' n a; rw [h1] at this; cases this
  · exact a
  · have := h m a; rw [h1'] at this; cases this

def recVals (p : RecL × Value) : List Value := [.int .i64 (p.1.kind : Nat), .int .i64 (p.1.time : Nat), .int .i64 (p.1.gen : Nat), p.2]
def recCells (rs : List (RecL × Value)) : List Value := rs.flatMap recVals
/-- the blocks of a list of records and of their lists of writes -/
def blocksOf (v : Value) (rs : List (RecL × Value)) : List Nat := (v.ownBlock :: rs.map fun p => p.2.ownBlock).filterMap id
/-- the slice v is a row of the call's own and holds the records; so are their writes; no two share a block; all are new -/
structure Recs (B : Nat) (w : World) (v : Value) (rs : List (RecL × Value)) : Prop where
  row : w.ownsRow 0 32 4 v rs.length (recCells rs)
  each : ∀ p ∈ rs, Ws w p.2 p.1.writes
  apart : (blocksOf v rs).Nodup
  fresh : ∀ x ∈ blocksOf v rs, B ≤ x
theorem mem_blocks {v : Value} {rs : List (RecL × Value)} {x : Nat} : x ∈ blocksOf v rs ↔ v.ownBlock = some x ∨ ∃ p ∈ rs, p.2.ownBlock = some x := by
  unfold blocksOf
  simp only [List.mem_filterMap, List.mem_cons, List.mem_map, id]
  constructor
  · rintro ⟨a, rfl | ⟨p, hp, rfl⟩, ha⟩
    · exact .inl ha
    · exact .inr ⟨p, hp, ha⟩
  · rintro (h | ⟨p, hp, h⟩)
    · exact ⟨_, .inl rfl, h⟩
    · exact ⟨_, .inr ⟨p, hp, rfl⟩, h⟩
theorem Recs.lt {B : Nat} {w : World} {v : Value} {rs : List (RecL × Value)} (h : Recs B w v rs) : ∀ x ∈ blocksOf v rs, x < w.heap.size := by
  intro x hx
  rcases mem_blocks.1 hx with h1 | ⟨p, hp, h1⟩
  · exact (World.ownsRow.lt h.row x h1).2
  · exact (World.ownsRow.lt (h.each p hp) x h1).2
theorem Recs.kept {B : Nat} {w w' : World} {v : Value} {rs : List (RecL × Value)} (h : Recs B w v rs) (hb : ∀ x ∈ blocksOf v rs, w'.heap[x]? = w.heap[x]?) : Recs B w' v rs := by
  refine ⟨?_, fun p hp => (h.each p hp).kept fun g hg => hb g (mem_blocks.2 (.inr ⟨p, hp, hg⟩)), h.apart, h.fresh⟩
  obtain ⟨h1, h2⟩ := h.row
  refine ⟨h1, ?_⟩
  rcases h2 with h2 | ⟨g, cap, cur, rfl, h3, h4, h5⟩
  · exact .inl h2
  · exact .inr ⟨g, cap, cur, rfl, h3, (hb g (mem_blocks.2 (.inl rfl))).trans h4, h5⟩
theorem Recs_nil (B : Nat) (w : World) : Recs B w (.slice none 0 0) [] :=
  ⟨World.ownsRow_nil w 0 _ 4, by simp, by simp [blocksOf, Value.ownBlock], by simp [blocksOf, Value.ownBlock]⟩
theorem Try.info32 : (Try.prog.info? 32).map (fun i => (i.zero, i.size, i.bytes)) = some (some (.agg #[.int .i64 0, .int .i64 0, .int .i64 0, .slice none 0 0]), 4, 48) := by kernel_rfl
theorem srcOne4 {P : Program} (w : World) (t e : TypeId) (ht : P.underlying t = some (.slice e)) (b c : Nat) (k t' g : Int) (a : Option Addr) (n m : Nat) (h0 : w.cell? ⟨b, 0, none⟩ = some (.int .i64 k)) (h1 : w.cell? ⟨b, 1, none⟩ = some (.int .i64 t')) (h2 : w.cell? ⟨b, 2, none⟩ = some (.int .i64 g)) (h3 : w.cell? ⟨b, 3, none⟩ = some (.slice a n m)) :
    Src P 4 t (.slice (some ⟨b, 0, none⟩) 1 c) 1 [.int .i64 k, .int .i64 t', .int .i64 g, .slice a n m] w :=
  Src.ofSlice w ht ⟨b, 0, none⟩ 1 c _ rfl (fun j u hj => by
    match j, hj with
    | 0, hj => simp at hj; subst hj; simpa [Addr.add_lit] using h0
    | 1, hj => simp at hj; subst hj; simpa [Addr.add_lit] using h1
    | 2, hj => simp at hj; subst hj; simpa [Addr.add_lit] using h2
    | 3, hj => simp at hj; subst hj; simpa [Addr.add_lit] using h3) (by intro u hu; simp at hu; rcases hu with rfl | rfl | rfl | rfl <;> rfl)
theorem rcell (w : World) (a b c d : Value) (t : TypeId) : (w.alloc (.cells #[a, b, c, d] t)).cell? ⟨w.heap.size, 0, none⟩ = some a ∧ (w.alloc (.cells #[a, b, c, d] t)).cell? ⟨w.heap.size, 1, none⟩ = some b ∧ (w.alloc (.cells #[a, b, c, d] t)).cell? ⟨w.heap.size, 2, none⟩ = some c ∧ (w.alloc (.cells #[a, b, c, d] t)).cell? ⟨w.heap.size, 3, none⟩ = some d := by simp

/-- the blocks of the lists of writes alone -/
def inner (rs : List (RecL × Value)) : List Nat := (rs.map fun p => p.2.ownBlock).filterMap id
theorem blocks_eq (v : Value) (rs : List (RecL × Value)) : blocksOf v rs = v.ownBlock.toList ++ inner rs := by
  unfold blocksOf inner
  cases h : v.ownBlock <;> simp
theorem inner_snoc (rs : List (RecL × Value)) (p : RecL × Value) : inner (rs ++ [p]) = inner rs ++ p.2.ownBlock.toList := by
  unfold inner
  rw [List.map_append, List.filterMap_append]
  cases h : p.2.ownBlock <;> simp [h]
theorem mem_inner {rs : List (RecL × Value)} {x : Nat} : x ∈ inner rs ↔ ∃ p ∈ rs, p.2.ownBlock = some x := by
  unfold inner
  simp only [List.mem_filterMap, List.mem_map, id]
  constructor
  · rintro ⟨a, ⟨p, hp, rfl⟩, ha⟩; exact ⟨p, hp, ha⟩
  · rintro ⟨p, hp, h⟩; exact ⟨_, ⟨p, hp, rfl⟩, h⟩
theorem recs_parts {B : Nat} {w : World} {v : Value} {rs : List (RecL × Value)} (h : Recs B w v rs) : (inner rs).Nodup ∧ (∀ x, v.ownBlock = some x → x ∉ inner rs) := by
  have := h.apart
  rw [blocks_eq] at this
  rw [List.nodup_append] at this
  refine ⟨this.2.1, fun x hx hm => ?_⟩
  exact this.2.2 x (by rw [hx]; simp) x hm rfl
/-- one record more -/
theorem Recs.snoc {B : Nat} {w w1 w2 : World} {v v' nv : Value} {rs : List (RecL × Value)} {r : RecL} {o1 o2 : Obj} (h : Recs B w v rs) (hb : Below w.heap.size w w1) (hnv : Ws w1 nv r.writes) (hnew : Newer w (.slice none 0 0) nv) (hB : B ≤ w.heap.size)
    (hown : w2.ownsRow 0 32 4 v' (rs.length + 1) (recCells rs ++ recVals (r, nv))) (hgr : ((w1.alloc o1).alloc o2).grownBy w2 v.ownBlock) (hn : Newer ((w1.alloc o1).alloc o2) v v') : Recs B w2 v' (rs ++ [(r, nv)]) := by
  obtain ⟨hnd, hvi⟩ := recs_parts h
  have hsz : w.heap.size ≤ w1.heap.size := hb.size
  have hold : ∀ g, g < w1.heap.size → some g ≠ v.ownBlock → w2.heap[g]? = w1.heap[g]? := by
    intro g hg hne
    rw [hgr.block g (by simp; omega) hne, Below.heap_alloc _ _ _ (by simp; omega), Below.heap_alloc _ _ _ hg]
  have hvlt : ∀ x, v.ownBlock = some x → B ≤ x ∧ x < w.heap.size := fun x hx => ⟨h.fresh x (mem_blocks.2 (.inl hx)), (World.ownsRow.lt h.row x hx).2⟩
  have hnlt : ∀ x, nv.ownBlock = some x → w.heap.size ≤ x ∧ x < w1.heap.size := by
    intro x hx
    refine ⟨?_, (World.ownsRow.lt hnv x hx).2⟩
    rcases hnew with e | ⟨g, e, hg⟩
    · rw [e] at hx; cases hx
    · rw [e] at hx; injection hx with hx; omega
  have hilt : ∀ x ∈ inner rs, B ≤ x ∧ x < w.heap.size := by
    intro x hx
    have hm : x ∈ blocksOf v rs := by rw [blocks_eq]; exact List.mem_append.2 (.inr hx)
    exact ⟨h.fresh x hm, h.lt x hm⟩
  have hv' : ∀ x, v'.ownBlock = some x → v.ownBlock = some x ∨ w1.heap.size ≤ x := by
    intro x hx
    rcases hn with e | ⟨g, e, hg⟩
    · rw [e] at hx; exact .inl hx
    · rw [e] at hx; injection hx with hx; simp at hg; exact .inr (by omega)
  refine ⟨?_, ?_, ?_, ?_⟩
  · rw [List.length_append]
    unfold recCells at *
    rw [List.flatMap_append]
    simpa using hown
  · intro p hp
    rcases List.mem_append.1 hp with hp | hp
    · refine (h.each p hp).kept fun g hg => ?_
      have hlt := (World.ownsRow.lt (h.each p hp) g hg).2
      have hne : some g ≠ v.ownBlock := fun e => hvi g e.symm (mem_inner.2 ⟨p, hp, hg⟩)
      rw [hold g (by omega) hne, hb.block g hlt]
    · simp only [List.mem_singleton] at hp
      subst hp
      refine hnv.kept fun g hg => hold g (hnlt g hg).2 fun e => ?_
      have h1 := (hvlt g e.symm).2
      have h2 := (hnlt g hg).1
      omega
  · rw [blocks_eq, inner_snoc, List.nodup_append, List.nodup_append]
    refine ⟨by cases v'.ownBlock <;> simp, ⟨hnd, by cases nv.ownBlock <;> simp, ?_⟩, ?_⟩
    · intro x hx y hy e
      subst e
      simp only [Option.mem_toList] at hy
      have h1 := (hnlt x hy).1
      have h2 := (hilt x hx).2
      omega
    · intro x hx y hy e
      subst e
      simp only [Option.mem_toList] at hx
      rcases List.mem_append.1 hy with hy | hy
      · rcases hv' x hx with h1 | h1
        · exact hvi x h1 hy
        · have := (hilt x hy).2; omega
      · simp only [Option.mem_toList] at hy
        rcases hv' x hx with h1 | h1
        · have := (hvlt x h1).2; have := (hnlt x hy).1; omega
        · have := (hnlt x hy).2; omega
  · intro x hx
    rw [blocks_eq, inner_snoc] at hx
    simp only [List.mem_append, Option.mem_toList] at hx
    rcases hx with hx | hx | hx
    · rcases hv' x hx with h1 | h1
      · exact (hvlt x h1).1
      · omega
    · exact (hilt x hx).1
    · have := (hnlt x hx).1; omega
/-- what Scan answers: the records of the first n frames, and their bytes -/
def ScanPost (l : List UInt8) (w : World) (e : Ending) (w' : World) : Prop :=
  ∃ n v rs, okN n l ∧ fB (l.drop (taken n l)) = false ∧ e = .returned (.tuple #[v, .int .i64 (taken n l : Nat)]) ∧ rs.map (·.1) = recs n l ∧ Recs w.heap.size w' v rs ∧ Below w.heap.size w w'
set_option maxHeartbeats 1000000 in
set_option maxRecDepth 100000 in
theorem fScan_any (l : List UInt8) (w : World) (hl : l.length ≤ 140737488355328) (hcnt : ∀ n, okN n l → n ≤ 2000000000000) :
    Calls Try.prog 36 #[.string (textOf l)] w fun e w' => ScanPost l w e w' := by
  obtain ⟨i0, hi, hz0, hz1, hz2⟩ := info_parts Try.info32
  have HC : Hid (∀ n, okN n l → n ≤ 2000000000000) := hcnt
  have hts : (textOf l).size = l.length := textOf_size l
  have hsz : (textOf l).size ≤ 140737488355328 := by omega
  have HSZ : Hid ((textOf l).size = l.length) := hts
  clear hcnt hts
  go_enter Try.func36, Try.ntmps36
  go_wp2_with fail
  go_loopw [4, 5, 6, 7] (fun v t _ _ wr => ∃ n rs, okN n l ∧ t = .int .i64 (taken n l : Nat) ∧ rs.map (·.1) = recs n l ∧ Recs w.heap.size wr v rs ∧ Below w.heap.size w wr) (fun _ t _ _ _ => l.length - (intOf t).toNat)
  case atStart => exact ⟨0, [], fun i hi => absurd hi (by omega), rfl, rfl, Recs_nil _ _, Below.refl _ _⟩
  case round =>
    obtain ⟨n, rs, hok, rfl, hrs, hR, hbel⟩ := hrel
    have htk := taken_le n l hok
    have HOK : Hid (okN n l) := hok
    have HRS : Hid (rs.map (·.1) = recs n l) := hrs
    have hlen : rs.length = n := by have := congrArg List.length hrs; rwa [List.length_map, recs_length] at this
    have hn9 := HC.out n hok
    have hl1 : rs.length + 1 ≤ maxLen := by unfold maxLen; omega
    have hl2 : (rs.length + 1) * 48 ≤ 140737488355328 := by omega
    have HT : Hid (taken (n + 1) l = taken n l + (7 + fN (l.drop (taken n l)))) := rfl
    have HRC : Hid (recs (n + 1) l = recs n l ++ [recAt (l.drop (taken n l))]) := recs_succ n l
    have HEX : Hid ((textOf l).extract (taken n l) (textOf l).size = textOf (l.drop (taken n l))) := text_drop l (taken n l) _ (by omega)
    have htz : taken n l ≤ (textOf l).size := by rw [HSZ.out]; omega
    have hdl : (l.drop (taken n l)).length ≤ 140737488355328 := by rw [List.length_drop]; omega
    clear hok hrs hlen
    generalize hs : textOf l = s at *
    clear hs
    generalize htt : taken n l = tk at *
    have HTK : Hid (taken n l = tk) := htt
    clear htt
    go_wp2_with fail
    rw [HEX.out]
    refine (first_any _ _ hdl).mono ?_
    rintro e w1 ⟨hcase, hb1⟩
    rcases hcase with ⟨hf, rfl⟩ | ⟨hf, nv, rfl, hnv, hnew⟩
    · unfold zeroRec
      go_wp2_with fail
      go_ret2
      refine ⟨n, _, rs, HOK.out, by rw [HTK.out]; exact hf, by rw [HTK.out]; rfl, HRS.out, ?_, ?_⟩
      · refine hR.kept fun x hx => ?_
        have hlt := hR.lt x hx
        rw [Below.heap_alloc _ _ _ (Nat.lt_of_lt_of_le hlt hb1.size), hb1.block x hlt]
      · exact (hbel.trans (hb1.mono hbel.size)).alloc (Nat.le_trans hbel.size hb1.size) _
    · obtain ⟨va, vc, rfl⟩ := hnv.form
      have hfn : fN (l.drop tk) < 256 := (List.getD (l.drop tk) 2 0).toNat_lt
      have HF : Hid (fB (l.drop tk) = true) := hf
      have HRA : Hid (recAt (l.drop tk) = ⟨fK (l.drop tk), gT (fK (l.drop tk)) (fP (l.drop tk)), gG (fK (l.drop tk)) (fP (l.drop tk)), gW (fK (l.drop tk)) (fP (l.drop tk))⟩) := rfl
      have hlen7 := fB_len hf
      rw [List.length_drop] at hlen7
      clear hf
      generalize fN (l.drop tk) = fn at *
      generalize fK (l.drop tk) = k at *
      generalize gT k (fP (l.drop tk)) = tt at *
      generalize gG k (fP (l.drop tk)) = gg at *
      generalize gW k (fP (l.drop tk)) = rows at *
      have h70 : (((7 + fn : Nat) : Int) == 0) = false := by rw [beq_eq_false_iff_ne]; omega
      have hrow1 : w1.ownsRow 0 32 4 _ rs.length (recCells rs) := (hR.kept fun x hx => hb1.block x (hR.lt x hx)).row
      have hrow2 := World.ownsRow.alloc (World.ownsRow.alloc hrow1 (.cells #[.int .i64 k, .int .i64 tt, .int .i64 gg, .slice va rows.length vc] 32)) (.cells #[.int .i64 k, .int .i64 tt, .int .i64 gg, .slice va rows.length vc] 32)
      obtain ⟨d0, d1, d2, d3⟩ := rcell (w1.alloc (.cells #[.int .i64 k, .int .i64 tt, .int .i64 gg, .slice va rows.length vc] 32)) (.int .i64 k) (.int .i64 tt) (.int .i64 gg) (.slice va rows.length vc) 32
      simp only [World.size_alloc] at d0 d1 d2 d3
      go_wp2_with (at_builtin; go_must (refine wpList_append_src _ rfl _ _ 46 46 rfl 32 i0 _ 4 48 Try.underlying46 hi hz0 hz1 hz2 rfl (by decide) _ _ _ rfl hrow2 _ 1 _ rfl (srcOne4 _ _ _ Try.underlying46 _ _ _ _ _ _ _ _ d0 d1 d2 d3) (fun _ => by decide) hl1 hl2 ?_; intro u' w2 hown hgr hnw hnn))
      go_roundw
      case rel =>
        refine ⟨n + 1, rs ++ [(recAt (l.drop tk), .slice va rows.length vc)], okN_succ HOK.out (by rw [HTK.out]; exact HF.out), ?_, ?_, ?_, ?_⟩
        · rw [HT.out]; go_num
        · rw [List.map_append, HRS.out, HRC.out]; rfl
        · rw [HRA.out]
          exact hR.snoc hb1 hnv hnew hbel.size hown hgr hnw
        · have h1 : Below w.heap.size w ((w1.alloc (.cells #[.int .i64 k, .int .i64 tt, .int .i64 gg, .slice va rows.length vc] 32)).alloc (.cells #[.int .i64 k, .int .i64 tt, .int .i64 gg, .slice va rows.length vc] 32)) :=
            ((hbel.trans (hb1.mono hbel.size)).alloc (Nat.le_trans hbel.size hb1.size) _).alloc (by have := Nat.le_trans hbel.size hb1.size; simp; omega) _
          exact h1.grown hgr h1.size (fun x hx => hR.fresh x (mem_blocks.2 (.inl hx)))
      case measure => simp [intOf]; omega
set_option maxHeartbeats 400000 in
theorem pScan_any (l : List UInt8) (w : World) (hl : l.length ≤ 140737488355328) (hcnt : ∀ n, okN n l → n ≤ 2000000000000) :
    Calls Try.prog 18 #[.string (textOf l)] w fun e w' => ScanPost l w e w' := by
  have HC : Hid (∀ n, okN n l → n ≤ 2000000000000) := hcnt
  clear hcnt
  go_enter Try.func18, Try.ntmps18
  go_wp2_with fail
  refine (fScan_any l _ hl HC.out).mono ?_
  rintro e w1 ⟨n, v, rs, h1, h2, rfl, h3, h4, h5⟩
  have HP : Hid (ScanPost l w (.returned (.tuple #[v, .int .i64 (taken n l : Nat)])) w1) := ⟨n, v, rs, h1, h2, rfl, h3, h4, h5⟩
  clear h1 h2 h3 h4 h5
  go_wp2_with fail
  go_ret2
  exact HP.out
end Go.Proofs.Ytneepapppbchnaa
