/- Reread: what its first loop keeps. No walk here. -/
import Derived.Test.YtneepapppbchnaaReads
namespace Go.Proofs.Ytneepapppbchnaa
open Go.RowKit
set_option linter.unusedVariables false

theorem Try.info3 : (Try.prog.info? 3).map (fun i => (i.zero, i.size, i.bytes)) = some (some (.int .i64 0), 1, 8) := by kernel_rfl
/-- the slice v holds n numbers -/
def IntsAt (w : World) (v : Value) (n : Nat) : Prop := ∃ a cap, v = .slice a n cap ∧ ∀ i, i < n → ∃ b off c, a = some ⟨b, off, none⟩ ∧ w.cell? ⟨b, off + i, none⟩ = some (.int .i64 c) ∧ (-9223372036854775808 ≤ c ∧ c ≤ 9223372036854775807)
theorem IntsAt.below {w w' : World} {v : Value} {n : Nat} (h : IntsAt w v n) (hb : Below w.heap.size w w') : IntsAt w' v n := by
  obtain ⟨a, cap, rfl, hat⟩ := h
  refine ⟨a, cap, rfl, fun i hi => ?_⟩
  obtain ⟨b, off, c, e, hc, hr⟩ := hat i hi
  exact ⟨b, off, c, e, (hb.cell (World.block_lt_of_cell? w _ hc)).trans hc, hr⟩
theorem StrsAt.below {w w' : World} {v : Value} {n : Nat} (h : StrsAt w v n) (hb : Below w.heap.size w w') : StrsAt w' v n := by
  obtain ⟨a, cap, rfl, hat⟩ := h
  refine ⟨a, cap, rfl, fun i hi => ?_⟩
  obtain ⟨b, off, c, e, hc, hr⟩ := hat i hi
  exact ⟨b, off, c, e, (hb.cell (World.block_lt_of_cell? w _ hc)).trans hc, hr⟩
/-- where the first i frames end -/
def endAt (rows : List RecL) (i : Nat) : Nat := (framesL (rows.take i)).length
def endsOf (rows : List RecL) : List Value := (List.range (rows.length + 1)).map fun i => .int .i64 (endAt rows i : Nat)
theorem endsOf_length (rows : List RecL) : (endsOf rows).length = rows.length + 1 := by simp [endsOf]
theorem endsOf_get (rows : List RecL) (i : Nat) (h : i ≤ rows.length) : (endsOf rows)[i]? = some (.int .i64 (endAt rows i : Nat)) := by
  unfold endsOf
  rw [List.getElem?_map, List.getElem?_range (by omega)]; rfl
theorem endsOf_snoc (rows : List RecL) (r : RecL) : endsOf (rows ++ [r]) = endsOf rows ++ [.int .i64 ((framesL (rows ++ [r])).length : Nat)] := by
  unfold endsOf
  rw [List.length_append, List.length_singleton, List.range_succ, List.map_append]
  congr 1
  · apply List.map_congr_left
    intro i hi
    have := List.mem_range.1 hi
    unfold endAt
    rw [List.take_append_of_le_length (by omega)]
  · simp only [List.map_cons, List.map_nil]
    unfold endAt
    rw [List.take_of_length_le (by simp)]
theorem framesL_len (rows : List RecL) (hok : ∀ r ∈ rows, r.ok) : 7 * rows.length ≤ (framesL rows).length ∧ (framesL rows).length ≤ 172 * rows.length := by
  induction rows with
  | nil => exact ⟨Nat.le_refl _, Nat.le_refl _⟩
  | cons r rows ih =>
    have h1 := ih (fun x hx => hok x (List.mem_cons_of_mem _ hx))
    have h2 := frame_length (hok r List.mem_cons_self)
    rw [framesL_cons, List.length_append, List.length_cons]
    omega
/-- what the first loop keeps -/
structure RS (w wr : World) (t ev wv : Value) (rs : List (RecL × Value)) : Prop where
  ht : t = .string (textOf (framesL (rs.map (·.1))))
  ends : wr.ownsRow 0 3 1 ev (rs.length + 1) (endsOf (rs.map (·.1)))
  want : Recs w.heap.size wr wv rs
  ok : ∀ p ∈ rs, p.1.ok
  evb : ∃ g, ev.ownBlock = some g ∧ w.heap.size ≤ g ∧ g ∉ blocksOf wv rs
  bel : Below w.heap.size w wr
theorem RS.ends2 {w wr w2 w3 : World} {t ev wv : Value} {rs : List (RecL × Value)} {o : Obj} (h : RS w wr t ev wv rs) (hb : Below wr.heap.size wr w2) (hgr : (w2.alloc o).grownBy w3 wv.ownBlock) : w3.ownsRow 0 3 1 ev (rs.length + 1) (endsOf (rs.map (·.1))) := by
  obtain ⟨g, hg, hgw, hgn⟩ := h.evb
  refine own_kept h.ends fun x hx => ?_
  have hlt := (World.ownsRow.lt h.ends x hx).2
  have hs := hb.size
  have hne : some x ≠ wv.ownBlock := by
    intro e
    rw [hg] at hx
    injection hx with hx
    subst hx
    exact hgn (mem_blocks.2 (.inl e.symm))
  rw [hgr.block x (by simp; omega) hne, Below.heap_alloc _ _ _ (by omega), hb.block x hlt]
theorem RS.step {w wr w2 w3 w4 : World} {t ev wv wv' ev' nv : Value} {rs : List (RecL × Value)} {r : RecL} {o o' : Obj} (h : RS w wr t ev wv rs) (hb : Below wr.heap.size wr w2) (hok : r.ok) (hnv : Ws w2 nv r.writes) (hnew : Newer wr (.slice none 0 0) nv)
    (hown : w3.ownsRow 0 32 4 wv' (rs.length + 1) (recCells rs ++ recVals (r, nv))) (hgr : (w2.alloc o).grownBy w3 wv.ownBlock) (hn : Newer (w2.alloc o) wv wv')
    (hown2 : w4.ownsRow 0 3 1 ev' (rs.length + 1 + 1) (endsOf (rs.map (·.1)) ++ [.int .i64 ((framesL (rs.map (·.1) ++ [r])).length : Nat)])) (hgr2 : (w3.alloc o').grownBy w4 ev.ownBlock) (hn2 : Newer (w3.alloc o') ev ev') :
    RS w w4 (.string (textOf (framesL (rs.map (·.1) ++ [r])))) ev' wv' (rs ++ [(r, nv)]) := by
  obtain ⟨g, hg, hgw, hgn⟩ := h.evb
  have hwr : w.heap.size ≤ wr.heap.size := h.bel.size
  have hs2 : wr.heap.size ≤ w2.heap.size := hb.size
  have hs3 : w2.heap.size + 1 ≤ w3.heap.size := by have := hgr.size; simpa using this
  have hs4 : w3.heap.size + 1 ≤ w4.heap.size := by have := hgr2.size; simpa using this
  have hw3 : Recs w.heap.size w3 wv' (rs ++ [(r, nv)]) := h.want.snocG hb hnv hnew hwr (box_below w2 o) hown hgr hn
  have hglt : g < wr.heap.size := (World.ownsRow.lt h.ends g hg).2
  have hgn' : g ∉ blocksOf wv' (rs ++ [(r, nv)]) := by
    intro hm
    rcases mem_blocks.1 hm with q | ⟨p, hp, q⟩
    · rcases hn with e | ⟨x, e, hx⟩
      · rw [e] at q; exact hgn (mem_blocks.2 (.inl q))
      · rw [e] at q; injection q with q; simp at hx; omega
    · rcases List.mem_append.1 hp with hp | hp
      · exact hgn (mem_blocks.2 (.inr ⟨p, hp, q⟩))
      · simp only [List.mem_singleton] at hp
        subst hp
        rcases hnew with e | ⟨x, e, hx⟩
        · have e' : nv.ownBlock = none := e
          rw [e'] at q; cases q
        · rw [e] at q; injection q with q; omega
  have hB3 : Below w.heap.size w w3 := by
    have h1 : Below w.heap.size w (w2.alloc o) := (h.bel.trans (hb.mono hwr)).alloc (by omega) _
    exact h1.grown hgr (by simp; omega) (fun x hx => h.want.fresh x (mem_blocks.2 (.inl hx)))
  refine ⟨by rw [List.map_append]; rfl, ?_, ?_, ?_, ?_, ?_⟩
  · rw [List.map_append, List.length_append]
    have e := endsOf_snoc (rs.map (·.1)) r
    simp only [List.map_cons, List.map_nil, List.length_singleton]
    rw [e]
    exact hown2
  · refine hw3.kept fun x hx => ?_
    have hne : some x ≠ ev.ownBlock := by
      intro e
      rw [hg] at e
      injection e with e
      subst e
      exact hgn' hx
    rw [hgr2.block x (by have := hw3.lt x hx; simp; omega) hne, Below.heap_alloc _ _ _ (hw3.lt x hx)]
  · intro p hp
    rcases List.mem_append.1 hp with hp | hp
    · exact h.ok p hp
    · simp only [List.mem_singleton] at hp
      subst hp
      exact hok
  · rcases hn2 with e | ⟨x, e, hx⟩
    · exact ⟨g, e.trans hg, hgw, hgn'⟩
    · simp at hx
      exact ⟨x, e, by omega, fun hm => by have := hw3.lt x hm; omega⟩
  · exact (hB3.alloc (by omega) _).grown hgr2 (by simp; omega) (fun x hx => by rw [hg] at hx; injection hx; omega)
theorem endAt_succ (rows : List RecL) (n : Nat) (h : n < rows.length) : endAt rows (n + 1) = endAt rows n + (frameL rows[n].kind rows[n].time rows[n].gen rows[n].writes).length := by
  unfold endAt
  rw [List.take_succ_eq_append_getElem h, framesL_snoc, List.length_append]
theorem endAt_all (rows : List RecL) : endAt rows rows.length = (framesL rows).length := by unfold endAt; rw [List.take_length]
/-- with one byte another, but of a length, just the frames ahead of it are there -/
theorem frames_changed (rows : List RecL) (hok : ∀ r ∈ rows, r.ok) (n : Nat) (hn : n < rows.length) (k : Nat) (h1 : endAt rows n ≤ k) (h2 : k < endAt rows (n + 1)) (h3 : k ≠ endAt rows n + 2) (x : UInt8) (hk : k < (framesL rows).length) (hx : x ≠ (framesL rows)[k]) :
    ∃ rest, (framesL rows).set k x = framesL (rows.take n) ++ rest ∧ fB rest = false := by
  rw [endAt_succ rows n hn] at h2
  have hr : rows[n].ok := hok rows[n] (List.getElem_mem hn)
  have e : framesL rows = framesL (rows.take n) ++ (frameL rows[n].kind rows[n].time rows[n].gen rows[n].writes ++ framesL (rows.drop (n + 1))) := by
    conv => lhs; rw [← List.take_append_drop n rows, framesL_append, List.drop_eq_getElem_cons hn, framesL_cons]
  unfold endAt at h1 h2 h3
  have hj : k - (framesL (rows.take n)).length < (frameL rows[n].kind rows[n].time rows[n].gen rows[n].writes).length := by omega
  refine ⟨(frameL rows[n].kind rows[n].time rows[n].gen rows[n].writes).set (k - (framesL (rows.take n)).length) x ++ framesL (rows.drop (n + 1)), ?_, ?_⟩
  · conv => lhs; rw [e]
    rw [List.set_append_right _ _ (by omega), List.set_append_left _ _ hj]
  · refine frame_broken hr _ hj (by omega) x ?_ _
    intro hxe
    apply hx
    rw [hxe]
    have : (framesL rows)[k] = (framesL (rows.take n) ++ (frameL rows[n].kind rows[n].time rows[n].gen rows[n].writes ++ framesL (rows.drop (n + 1))))[k]'(by rw [← e]; exact hk) := by congr 1
    rw [this, List.getElem_append_right (by omega), List.getElem_append_left hj]
def wholeR : RecL := ⟨6, 0, 0, []⟩
def F6 : List UInt8 := frameL 6 0 0 []
theorem F6_length : F6.length = 7 := by
  have := (frame_parts 6 0 0 [] [] (by decide) (by decide)).2.2.2
  exact this
theorem F6_scan : okN 1 F6 ∧ taken 1 F6 = 7 ∧ fB (F6.drop (taken 1 F6)) = false ∧ (recs 1 F6).length = 1 := by
  have h := scan_frames [wholeR] (fun r hr => by simp only [List.mem_singleton] at hr; subst hr; exact rec_six) [] fB_nil
  have e : framesL [wholeR] ++ [] = F6 := by simp [framesL, wholeR, F6]
  rw [e] at h
  obtain ⟨h1, h2, h3, h4⟩ := h
  have e2 : (framesL [wholeR]).length = 7 := by
    have := F6_length
    rw [← e, List.append_nil] at this; exact this
  rw [e2] at h2
  exact ⟨h1, h2, h3, recs_length 1 F6⟩
theorem u8_xor_nat (a b : Nat) (ha : a < 256) (hb : b < 256) : bits .xor .u8 (a : Int) (b : Int) = ((a ^^^ b : Nat) : Int) := by
  have h : a ^^^ b < 256 := Nat.xor_lt_two_pow (n := 8) (by simpa using ha) (by simpa using hb)
  have ha' : a % 2 ^ 8 = a := Nat.mod_eq_of_lt (by omega)
  have hb' : b % 2 ^ 8 = b := Nat.mod_eq_of_lt (by omega)
  have e : (IntKind.u8).bits = 8 := rfl
  simp only [bits, e, BitVec.ofInt_natCast, BitVec.toNat_xor, BitVec.toNat_ofNat, ha', hb']
  rw [IntKind.wrap_u8]; omega
theorem xor_byte_ne (x : UInt8) (d : Nat) (hd : 1 ≤ d) (hd2 : d < 256) : UInt8.ofNat (x.toNat ^^^ d) ≠ x ∧ (UInt8.ofNat (x.toNat ^^^ d)).toNat = x.toNat ^^^ d := by
  have hx := x.toNat_lt
  have hl : x.toNat ^^^ d < 256 := Nat.xor_lt_two_pow (n := 8) (by simpa using hx) (by simpa using hd2)
  have ht := ofNat_toNat _ hl
  refine ⟨fun e => ?_, ht⟩
  have h1 := congrArg UInt8.toNat e
  rw [ht] at h1
  have h2 : x.toNat ^^^ d = x.toNat ^^^ 0 := by rw [h1, Nat.xor_zero]
  have := xor_cancel' h2
  omega
/-- the block b holds these bytes -/
def BytesAt (w : World) (b : Nat) (l : List UInt8) : Prop := ∀ j (h : j < l.length), w.cell? ⟨b, j, none⟩ = some (.int .u8 (l[j].toNat : Int))
theorem BytesAt.set {w : World} {b : Nat} {l : List UInt8} (h : BytesAt w b l) (k : Nat) (x : UInt8) (hk : k < l.length) : BytesAt (w.setCell ⟨b, k, none⟩ (.int .u8 (x.toNat : Int))) b (l.set k x) := by
  intro j hj
  rw [List.length_set] at hj
  rw [List.getElem_set]
  split
  · rename_i e
    subst e
    exact World.cell?_setCell_same _ _ _ (h k hk)
  · rename_i e
    rw [← h j hj]
    exact World.cell?_setCell_other _ _ _ _ (fun q => e (by injection q))
theorem BytesAt.drew {w : World} {b : Nat} {l : List UInt8} (h : BytesAt w b l) : BytesAt w.drew b l := h
/-- one byte of the block b is another -/
def Turned (wr : World) (b : Nat) (l : List UInt8) (wc : World) : Prop := BytesAt wc b l ∧ Only (fun x => x = b) wr wc
theorem turned_set {wr wz : World} {b k : Nat} {l : List UInt8} {x : UInt8} {v : Nat} (h : BytesAt wr b l) (hz : Only (fun _ => False) wr wz) (hs : wz.heap = wr.heap) (hk : k < l.length) (hv : v = x.toNat) : Turned wr b (l.set k x) (wz.setCell ⟨b, k, none⟩ (.int .u8 (v : Int))) := by
  subst hv
  have hb : BytesAt wz b l := by
    intro j hj
    rw [← h j hj]
    exact World.cell?_of_block (by rw [hs])
  refine ⟨hb.set k x hk, ?_⟩
  have h1 : Only (fun y => y = b) wr wz := ⟨hz.os, hz.tape, hz.output, hz.size, fun y hy _ => hz.block y hy (fun f => f)⟩
  exact h1.setCell b k _ (.inl rfl)
theorem turned_drew {wr wz : World} {b : Nat} {l : List UInt8} (h : Turned wr b l wz) : Turned wr b l wz.drew := ⟨h.1, ⟨h.2.os, h.2.tape, h.2.output, h.2.size, h.2.block⟩⟩
theorem want_slice {B : Nat} {w : World} {a : Option Addr} {cap : Nat} {rs : List (RecL × Value)} (h : Recs B w (.slice a rs.length cap) rs) (h0 : 0 < rs.length) : ∃ b, a = some ⟨b, 0, none⟩ ∧ rs.length ≤ cap ∧ cap ≤ maxLen := by
  rcases h.row.2 with ⟨e, h2⟩ | ⟨g, c, cur, e, _, _, h5, h6, _⟩
  · omega
  · injection e with e1 _ e3
    subst e1 e3
    exact ⟨g, rfl, h5, h6⟩
end Go.Proofs.Ytneepapppbchnaa
