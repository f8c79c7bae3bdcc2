/- Lists that are kept: what an append leaves of the old list; lists that hold one mark; the book. No walk here. -/
import Derived.Test.YtneepapppbchnaaOwn
import Derived.Test.YtneepapppbchnaaSame
namespace Go.Proofs.Ytneepapppbchnaa
open Go.RowKit
set_option linter.unusedVariables false

/-- what the new list is beside the old -/
def Beside (w w' : World) (v v' : Value) : Prop := (v'.ownBlock = v.ownBlock ∧ v ≠ .slice none 0 0) ∨ (v'.ownBlock = some w.heap.size ∧ Below w.heap.size w w')
section
variable {P : Program} (w : World)
theorem append_two (t tx ty e : TypeId) (i : TypeInfo) (z : Value) (size bytes : Nat) (ht : P.underlying t = some (.slice e)) (hi : P.info? e = some i) (hz : i.zero = some z)
    (hsize : i.size = size) (hby : i.bytes = bytes) (hzs : z.cells.size = size) (hsz : 0 < size)
    (v : Value) (n : Nat) (xs : List Value) (hown : w.ownsRow 0 e size v n xs)
    (x : Value) (m : Nat) (news : List Value) (hs : Src P size tx x m news w) (hm : v = .slice none 0 0 → 0 < m)
    (h63 : n + m ≤ maxLen) (hbytes : (n + m) * bytes ≤ 140737488355328) :
    ∃ v' w', (Builtin.append_ #[t, tx] ty #[v, x]).run P w = .ok v' w' ∧ w'.ownsRow 0 e size v' (n + m) (xs ++ news) ∧ w'.ownsRow 0 e size v n xs ∧ w.grownBy w' v.ownBlock ∧ Beside w w' v v' ∧ v' ≠ .slice none 0 0 := by
  subst hsize
  subst hby
  have hl := hs.newsLen
  have hlen : (xs ++ news).length = (n + m) * i.size := by rw [List.length_append, hown.1, hl, Nat.add_mul]
  have grown : ∀ (old : Nat) (v : Value), w.ownsRow 0 e i.size v n xs →
      (w.drew.alloc (.cells ((xs ++ news).toArray ++ Builtin.zeroCells z.cells (grownCap w (n + m) old e - (n + m))) e)).ownsRow 0 e i.size
        (.slice (some ⟨w.heap.size, 0, none⟩) (n + m) (grownCap w (n + m) old e)) (n + m) (xs ++ news) ∧
      (w.drew.alloc (.cells ((xs ++ news).toArray ++ Builtin.zeroCells z.cells (grownCap w (n + m) old e - (n + m))) e)).ownsRow 0 e i.size v n xs ∧
      w.grownBy (w.drew.alloc (.cells ((xs ++ news).toArray ++ Builtin.zeroCells z.cells (grownCap w (n + m) old e - (n + m))) e)) v.ownBlock ∧
      Below w.heap.size w (w.drew.alloc (.cells ((xs ++ news).toArray ++ Builtin.zeroCells z.cells (grownCap w (n + m) old e - (n + m))) e)) := by
    intro old v hv
    have hge := grownCap_ge w (n + m) old e
    have hcm : grownCap w (n + m) old e ≤ maxLen := grownCap_le_maxLen w (n + m) old e h63
    have hbel : Below w.heap.size w (w.drew.alloc (.cells ((xs ++ news).toArray ++ Builtin.zeroCells z.cells (grownCap w (n + m) old e - (n + m))) e)) := ⟨rfl, rfl, rfl, by simp, fun k hk => Below.heap_alloc w.drew _ k hk⟩
    refine ⟨⟨hlen, .inr ⟨w.heap.size, _, _, rfl, Nat.zero_le _, heap_alloc_new w.drew _, hge, hcm, ?_, ?_⟩⟩, ?_, ⟨rfl, rfl, rfl, by simp, fun k hk _ => Below.heap_alloc w.drew _ k hk⟩, hbel⟩
    · simp only [Array.size_append, List.size_toArray, size_zeroCells, hzs, hlen, ← Nat.add_mul]
      congr 1
      omega
    · simp only [Array.toList_append]
      rw [← hlen]
      exact List.take_left
    · rcases hv.2 with h2 | ⟨g, cap, cur, rfl, h3, h4, h5⟩
      · exact ⟨hv.1, .inl h2⟩
      · exact ⟨hv.1, .inr ⟨g, cap, cur, rfl, h3, (hbel.block g (World.ownsRow.lt hv g rfl).2).trans h4, h5⟩⟩
  rcases hown.2 with ⟨rfl, rfl⟩ | ⟨g, cap, cur, rfl, hbg, hg, hnc, hcm, hcs, htake⟩
  · have hx : xs = [] := List.eq_nil_of_length_eq_zero (by simpa using hown.1)
    subst hx
    have hpos := hm rfl
    have hr := run_append_grow_src (P := P) w t tx ty e i z ht hi hz none 0 0 [] (run_firstCells_none w.drew i.size 0 0 0) x m news hs (by omega) (by simp only [maxLen] at h63; omega) (by
      have := growslice_fits (need := 0 + m) (old := 0) (bytes := i.bytes) (by omega) hbytes
      exact this)
    obtain ⟨g1, g2, g3, g4⟩ := grown 0 (.slice none 0 0) hown
    exact ⟨_, _, hr, g1, g2, g3, .inr ⟨rfl, g4⟩, by simp⟩
  · by_cases hroom : n + m ≤ cap
    · have hfit : n * i.size + news.length ≤ cur.size := by rw [hl, hcs, ← Nat.add_mul]; exact Nat.mul_le_mul_right _ hroom
      have hr := room_src (P := P) w t tx ty e i ht hi g n cap cur hg x m news hs hroom hfit
      have hsize : (cur.toList.take (n * i.size) ++ news ++ cur.toList.drop (n * i.size + news.length)).toArray.size = cap * i.size := by
        simp only [List.size_toArray, List.length_append, List.length_take, List.length_drop, Array.length_toList]
        omega
      refine ⟨_, _, hr, ⟨hlen, .inr ⟨g, cap, _, rfl, hbg, setRow_heap w g cur _ e _ hg, hroom, hcm, hsize, ?_⟩⟩, ⟨hown.1, .inr ⟨g, cap, _, rfl, hbg, setRow_heap w g cur _ e _ hg, hnc, hcm, hsize, ?_⟩⟩, ⟨rfl, rfl, rfl, by simp, fun k _ hk => setRow_other w g k _ (fun e => hk (by simp [Value.ownBlock, e]))⟩, .inl ⟨rfl, by simp⟩, by simp⟩
      · rw [htake, ← hlen]
        exact List.take_left
      · rw [htake, ← hown.1, List.append_assoc]
        exact List.take_left
    · have holds : ∀ j u, xs[j]? = some u → w.cell? ((⟨g, 0, none⟩ : Addr).add j) = some u := hown.cells (g := g) rfl
      have hold := run_firstCells_some (P := P) w.drew i.size n ⟨g, 0, none⟩ n cap xs hown.1 (by simpa using holds)
      have hr := run_append_grow_src (P := P) w t tx ty e i z ht hi hz (some ⟨g, 0, none⟩) n cap xs hold x m news hs (by omega) (by simp only [maxLen] at h63; omega) (growslice_fits (by omega) hbytes)
      obtain ⟨g1, g2, g3, g4⟩ := grown cap (.slice (some ⟨g, 0, none⟩) n cap) hown
      exact ⟨_, _, hr, g1, g2, g3, .inr ⟨rfl, g4⟩, by simp⟩
theorem wpList_append_two {ops : Array Oper} {rest : List Oper} {o : Oper} {a : Act} {Q : Exit → Act → World → Prop} (hgd : o.guard = none) (s xo : Operand) (t tx : TypeId)
    (ho : o.op = .call { callee := .builtin .append, args := #[s, xo], argTypes := #[t, tx] })
    (e : TypeId) (i : TypeInfo) (z : Value) (size bytes : Nat) (ht : P.underlying t = some (.slice e)) (hi : P.info? e = some i) (hz : i.zero = some z)
    (hsize : i.size = size) (hby : i.bytes = bytes) (hzs : z.cells.size = size) (hsz : 0 < size)
    (v : Value) (n : Nat) (xs : List Value) (hv : a.eval s = v) (hown : w.ownsRow 0 e size v n xs)
    (x : Value) (m : Nat) (news : List Value) (hx : a.eval xo = x) (hs : Src P size tx x m news w) (hm : v = .slice none 0 0 → 0 < m)
    (h63 : n + m ≤ maxLen) (hbytes : (n + m) * bytes ≤ 140737488355328)
    (h : ∀ v' w', w'.ownsRow 0 e size v' (n + m) (xs ++ news) → w'.ownsRow 0 e size v n xs → w.grownBy w' v.ownBlock → Beside w w' v v' → v' ≠ .slice none 0 0 → wpList P ops Q rest (a.put o.dst v') w') : wpList P ops Q (o :: rest) a w :=
  wpList_plain hgd fun _ hK => by
    obtain ⟨v', w', hr, h2, h3, h4, h5, h6⟩ := append_two (P := P) w t tx o.type e i z size bytes ht hi hz hsize hby hzs hsz v n xs hown x m news hs hm h63 hbytes
    unfold Oper.wp execOp
    simp only [ho, resolve, invoke, builtin, Sem.run_bind, Sem.run_pure, Result.andThen_ok, List.map_toArray, List.map_cons, List.map_nil, hv, hx, hr]
    exact hK _ _ (h v' w' h2 h3 h4 h5 h6)
end
theorem own_set {w : World} {B : Nat} {e : TypeId} {size : Nat} {v : Value} {n : Nat} {xs : List Value} {g : Nat} (h : w.ownsRow B e size v n xs) (hg : v.ownBlock = some g) (o : Nat) (u : Value) : (w.setCell ⟨g, o, none⟩ u).ownsRow B e size v n (xs.set o u) := by
  refine ⟨by rw [List.length_set]; exact h.1, ?_⟩
  rcases h.2 with ⟨rfl, _⟩ | ⟨g', cap, cur, rfl, h3, h4, h5, h6, h7, h8⟩
  · cases hg
  · injection hg with hg
    subst hg
    refine .inr ⟨g', cap, _, rfl, h3, heap_setCell_at w g' o cur e (0, 0) u h4, h5, h6, by simpa using h7, ?_⟩
    rw [← h8]
    simp [List.take_set]
theorem own_frozen {w : World} {B : Nat} {e : TypeId} {size : Nat} {v : Value} {n : Nat} {xs : List Value} {g : Nat} (h : w.ownsRow B e size v n xs) (hg : v.ownBlock = some g) (o : Nat) : w.frozen? ⟨g, o, none⟩ = false := by
  rcases h.2 with ⟨rfl, _⟩ | ⟨g', cap, cur, rfl, h3, h4, h5⟩
  · cases hg
  · injection hg with hg
    subst hg
    simp [World.frozen?, h4]
/-- a list that holds one mark, so often -/
def Full (w : World) (x : Value) (m : WrL) (i : Nat) : Prop := (x = .slice none 0 0 ∧ i = 0) ∨ ∃ b cap, x = .slice (some ⟨b, 0, none⟩) i cap ∧ b < w.heap.size ∧ CellsAt w b 0 (List.replicate i m)
theorem Ws.full {w : World} {x : Value} {m : WrL} {i : Nat} (h : Ws w x (List.replicate i m)) : Full w x m i := by
  have hlt := World.ownsRow.lt h
  have hat := h.at
  rcases h.2 with ⟨rfl, h2⟩ | ⟨g, cap, cur, rfl, _⟩
  · exact .inl ⟨rfl, by simpa using h2⟩
  · refine .inr ⟨g, cap, by rw [List.length_replicate], (hlt g rfl).2, ?_⟩
    rcases hat with ⟨h0, _⟩ | ⟨b, off, cap', e, hc⟩
    · cases h0
    · injection e with e _ _
      injection e with e
      injection e with e1 e2 _
      subst e1 e2
      exact hc
theorem Full.kept {w w' : World} {x : Value} {m : WrL} {i : Nat} (h : Full w x m i) (hs : w.heap.size ≤ w'.heap.size) (hb : ∀ g, x.ownBlock = some g → w'.heap[g]? = w.heap[g]?) : Full w' x m i := by
  rcases h with h | ⟨b, cap, rfl, hlt, hc⟩
  · exact .inl h
  · exact .inr ⟨b, cap, rfl, by omega, hc.same fun _ => hb b rfl⟩
theorem Full.part {w : World} {x v : Value} {m : WrL} {i j : Nat} (h : Full w v m j) (hx : ∃ a cap, x = .slice a i cap ∧ (a = none → i = 0 ∧ cap = 0) ∧ ∀ q, a = some q → q.off = 0 ∧ q.spot = none) (hb : x.ownBlock = v.ownBlock) (hij : i ≤ j) : Full w x m i := by
  obtain ⟨a, cap, rfl, h0, h1⟩ := hx
  rcases h with ⟨rfl, _⟩ | ⟨b, cap', rfl, hlt, hc⟩
  · cases a with
    | none => obtain ⟨rfl, rfl⟩ := h0 rfl; exact .inl ⟨rfl, rfl⟩
    | some q => cases hb
  · cases a with
    | none => cases hb
    | some q =>
      obtain ⟨qb, qo, qs⟩ := q
      obtain ⟨rfl, rfl⟩ := h1 _ rfl
      injection hb with hb
      subst hb
      refine .inr ⟨qb, cap, rfl, hlt, fun k hk => ?_⟩
      have hk' : k < i := by simpa using hk
      have := hc k (by rw [List.length_replicate]; omega)
      simpa using this
theorem Full.shape {w : World} {x : Value} {m : WrL} {i : Nat} (h : Full w x m i) : ∃ a cap, x = .slice a i cap ∧ (a = none → i = 0 ∧ cap = 0) ∧ ∀ q, a = some q → q.off = 0 ∧ q.spot = none := by
  rcases h with ⟨rfl, rfl⟩ | ⟨b, cap, rfl, _⟩
  · exact ⟨none, 0, rfl, fun _ => ⟨rfl, rfl⟩, fun q hq => by cases hq⟩
  · exact ⟨_, cap, rfl, fun h => (by cases h), fun q hq => (by injection hq with hq; subst hq; exact ⟨rfl, rfl⟩)⟩
/-- behind an append to v, x is as it was -/
theorem full_after {w w' : World} {v v' x : Value} {m : WrL} {i j : Nat} (hx : Full w x m i) (hgr : w.grownBy w' v.ownBlock) (hv' : Full w' v' m j) (hij : x.ownBlock = v.ownBlock → i ≤ j) (alt : Beside w w' v v') : Full w' x m i := by
  rcases alt with ⟨hb, hn⟩ | ⟨_, hb⟩
  · by_cases he : x.ownBlock = v.ownBlock
    · exact hv'.part hx.shape (he.trans hb.symm) (hij he)
    · refine hx.kept hgr.size fun g hg => hgr.block g ?_ (fun e => he (hg.trans e))
      rcases hx with ⟨rfl, _⟩ | ⟨b, cap, rfl, hlt, _⟩
      · cases hg
      · injection hg with hg; subst hg; exact hlt
  · refine hx.kept hgr.size fun g hg => hb.block g ?_
    rcases hx with ⟨rfl, _⟩ | ⟨b, cap, rfl, hlt, _⟩
    · cases hg
    · injection hg with hg; subst hg; exact hlt
/-- a record's four cells -/
structure Q4 where
  k : Int
  t : Int
  g : Int
  v : Value
def Q4.cells (r : Q4) : List Value := [.int .i64 r.k, .int .i64 r.t, .int .i64 r.g, r.v]
def cells4 (rows : List Q4) : List Value := rows.flatMap Q4.cells
theorem cells4_length (rows : List Q4) : (cells4 rows).length = rows.length * 4 := by
  induction rows with
  | nil => rfl
  | cons r rows ih => simp only [cells4, List.flatMap_cons, List.length_append, List.length_cons] at *; simp only [Q4.cells, List.length_cons, List.length_nil]; omega
theorem cells4_append (a b : List Q4) : cells4 (a ++ b) = cells4 a ++ cells4 b := by unfold cells4; rw [List.flatMap_append]
theorem cells4_get (rows : List Q4) (i : Nat) (h : i < rows.length) : (cells4 rows)[i * 4]? = some (.int .i64 rows[i].k) ∧ (cells4 rows)[i * 4 + 1]? = some (.int .i64 rows[i].t) ∧ (cells4 rows)[i * 4 + 2]? = some (.int .i64 rows[i].g) ∧ (cells4 rows)[i * 4 + 3]? = some rows[i].v := by
  induction rows generalizing i with
  | nil => simp at h
  | cons r rows ih =>
    have hc : cells4 (r :: rows) = .int .i64 r.k :: .int .i64 r.t :: .int .i64 r.g :: r.v :: cells4 rows := rfl
    rw [hc]
    cases i with
    | zero => simp
    | succ i =>
      have := ih i (by simpa using h)
      rw [show (i + 1) * 4 = i * 4 + 4 by omega]
      simpa using this
theorem cells4_set (rows : List Q4) (i : Nat) (h : i < rows.length) (r : Q4) : ((((cells4 rows).set (i * 4) (.int .i64 r.k)).set (i * 4 + 1) (.int .i64 r.t)).set (i * 4 + 2) (.int .i64 r.g)).set (i * 4 + 3) r.v = cells4 (rows.set i r) := by
  induction rows generalizing i with
  | nil => simp at h
  | cons x rows ih =>
    have hc : ∀ (x : Q4) rows, cells4 (x :: rows) = .int .i64 x.k :: .int .i64 x.t :: .int .i64 x.g :: x.v :: cells4 rows := fun _ _ => rfl
    cases i with
    | zero => simp [hc]
    | succ i =>
      have := ih i (by simpa using h)
      rw [show (i + 1) * 4 = i * 4 + 4 by omega]
      simp only [List.set_cons_succ, hc]
      simpa using this
/-- the slice v is a row of the call's own and holds these records -/
def Rs (w : World) (v : Value) (rows : List Q4) : Prop := w.ownsRow 0 32 4 v rows.length (cells4 rows)
theorem Ws.set {w : World} {v : Value} {rows : List WrL} {g : Nat} (h : Ws w v rows) (hg : v.ownBlock = some g) (i : Nat) (hi : i < rows.length) (r : WrL) :
    Ws (((w.setCell ⟨g, i * 3, none⟩ (.string r.key)).setCell ⟨g, i * 3 + 1, none⟩ (.bool r.dead)).setCell ⟨g, i * 3 + 2, none⟩ (.string r.value)) v (rows.set i r) := by
  have := own_set (own_set (own_set h hg (i * 3) (.string r.key)) hg (i * 3 + 1) (.bool r.dead)) hg (i * 3 + 2) (.string r.value)
  rw [cellsOf_set rows i hi r] at this
  unfold Ws
  rw [List.length_set]
  exact this
theorem Rs.set {w : World} {v : Value} {rows : List Q4} {g : Nat} (h : Rs w v rows) (hg : v.ownBlock = some g) (i : Nat) (hi : i < rows.length) (r : Q4) :
    Rs ((((w.setCell ⟨g, i * 4, none⟩ (.int .i64 r.k)).setCell ⟨g, i * 4 + 1, none⟩ (.int .i64 r.t)).setCell ⟨g, i * 4 + 2, none⟩ (.int .i64 r.g)).setCell ⟨g, i * 4 + 3, none⟩ r.v) v (rows.set i r) := by
  have := own_set (own_set (own_set (own_set h hg (i * 4) (.int .i64 r.k)) hg (i * 4 + 1) (.int .i64 r.t)) hg (i * 4 + 2) (.int .i64 r.g)) hg (i * 4 + 3) r.v
  rw [cells4_set rows i hi r] at this
  unfold Rs
  rw [List.length_set]
  exact this
theorem Rs.snoc {w : World} {v : Value} {rows : List Q4} {r : Q4} (h : w.ownsRow 0 32 4 v (rows.length + 1) (cells4 rows ++ [.int .i64 r.k, .int .i64 r.t, .int .i64 r.g, r.v])) : Rs w v (rows ++ [r]) := by
  unfold Rs
  rw [cells4_append, List.length_append]
  exact h
def toQ (p : RecL × Value) : Q4 := ⟨p.1.kind, p.1.time, p.1.gen, p.2⟩
theorem recCells_eq (rs : List (RecL × Value)) : recCells rs = cells4 (rs.map toQ) := by
  induction rs with
  | nil => rfl
  | cons r rs ih => simp only [recCells, cells4, List.flatMap_cons, List.map_cons] at *; rw [ih]; rfl
/-- records of one kind, without writes -/
def FullR (w : World) (x : Value) (kd : Int) (i : Nat) : Prop := (x = .slice none 0 0 ∧ i = 0) ∨ ∃ b cap, x = .slice (some ⟨b, 0, none⟩) i cap ∧ b < w.heap.size ∧ ∀ j, j < i → w.cell? ⟨b, j * 4, none⟩ = some (.int .i64 kd) ∧ w.cell? ⟨b, j * 4 + 3, none⟩ = some (.slice none 0 0)
def AllK (rows : List Q4) (kd : Int) : Prop := ∀ j (h : j < rows.length), rows[j].k = kd ∧ rows[j].v = .slice none 0 0
theorem Rs.full {w : World} {x : Value} {rows : List Q4} {kd : Int} (h : Rs w x rows) (ha : AllK rows kd) : FullR w x kd rows.length := by
  rcases h.2 with ⟨rfl, h2⟩ | ⟨g, cap, cur, rfl, _⟩
  · exact .inl ⟨rfl, h2⟩
  · refine .inr ⟨g, cap, rfl, (World.ownsRow.lt h g rfl).2, fun j hj => ?_⟩
    have hc := World.ownsRow.cells h (g := g) rfl
    obtain ⟨k0, k1, k2, k3⟩ := cells4_get rows j hj
    have q0 := hc _ _ k0
    have q3 := hc _ _ k3
    simp only [Addr.add_lit, Nat.zero_add] at q0 q3
    rw [(ha j hj).1] at q0
    rw [(ha j hj).2] at q3
    exact ⟨q0, q3⟩
theorem FullR.shape {w : World} {x : Value} {kd : Int} {i : Nat} (h : FullR w x kd i) : ∃ a cap, x = .slice a i cap ∧ (a = none → i = 0 ∧ cap = 0) ∧ ∀ q, a = some q → q.off = 0 ∧ q.spot = none := by
  rcases h with ⟨rfl, rfl⟩ | ⟨b, cap, rfl, _⟩
  · exact ⟨none, 0, rfl, fun _ => ⟨rfl, rfl⟩, fun q hq => by cases hq⟩
  · exact ⟨_, cap, rfl, fun h => (by cases h), fun q hq => (by injection hq with hq; subst hq; exact ⟨rfl, rfl⟩)⟩
theorem FullR.lt {w : World} {x : Value} {kd : Int} {i : Nat} (h : FullR w x kd i) (g : Nat) (hg : x.ownBlock = some g) : g < w.heap.size := by
  rcases h with ⟨rfl, _⟩ | ⟨b, cap, rfl, hlt, _⟩
  · cases hg
  · injection hg with hg; subst hg; exact hlt
theorem Full.lt {w : World} {x : Value} {m : WrL} {i : Nat} (h : Full w x m i) (g : Nat) (hg : x.ownBlock = some g) : g < w.heap.size := by
  rcases h with ⟨rfl, _⟩ | ⟨b, cap, rfl, hlt, _⟩
  · cases hg
  · injection hg with hg; subst hg; exact hlt
theorem FullR.kept {w w' : World} {x : Value} {kd : Int} {i : Nat} (h : FullR w x kd i) (hs : w.heap.size ≤ w'.heap.size) (hb : ∀ g, x.ownBlock = some g → w'.heap[g]? = w.heap[g]?) : FullR w' x kd i := by
  rcases h with h | ⟨b, cap, rfl, hlt, hc⟩
  · exact .inl h
  · refine .inr ⟨b, cap, rfl, by omega, fun j hj => ?_⟩
    have e : ∀ o, w'.cell? ⟨b, o, none⟩ = w.cell? ⟨b, o, none⟩ := fun o => World.cell?_of_block (hb b rfl)
    rw [e, e]
    exact hc j hj
theorem FullR.part {w : World} {x v : Value} {kd : Int} {i j : Nat} (h : FullR w v kd j) (hx : ∃ a cap, x = .slice a i cap ∧ (a = none → i = 0 ∧ cap = 0) ∧ ∀ q, a = some q → q.off = 0 ∧ q.spot = none) (hb : x.ownBlock = v.ownBlock) (hij : i ≤ j) : FullR w x kd i := by
  obtain ⟨a, cap, rfl, h0, h1⟩ := hx
  rcases h with ⟨rfl, _⟩ | ⟨b, cap', rfl, hlt, hc⟩
  · cases a with
    | none => obtain ⟨rfl, rfl⟩ := h0 rfl; exact .inl ⟨rfl, rfl⟩
    | some q => cases hb
  · cases a with
    | none => cases hb
    | some q =>
      obtain ⟨qb, qo, qs⟩ := q
      obtain ⟨rfl, rfl⟩ := h1 _ rfl
      injection hb with hb
      subst hb
      exact .inr ⟨qb, cap, rfl, hlt, fun k hk => hc k (by omega)⟩
theorem fullR_after {w w' : World} {v v' x : Value} {kd : Int} {i j : Nat} (hx : FullR w x kd i) (hgr : w.grownBy w' v.ownBlock) (hv' : FullR w' v' kd j) (hij : x.ownBlock = v.ownBlock → i ≤ j) (alt : Beside w w' v v') : FullR w' x kd i := by
  rcases alt with ⟨hb, hn⟩ | ⟨_, hb⟩
  · by_cases he : x.ownBlock = v.ownBlock
    · exact hv'.part hx.shape (he.trans hb.symm) (hij he)
    · exact hx.kept hgr.size fun g hg => hgr.block g (hx.lt g hg) (fun e => he (hg.trans e))
  · exact hx.kept hgr.size fun g hg => hb.block g (hx.lt g hg)
/-- the book of the lists that came out: each list holds its mark; all that the book is lies in the blocks of P -/
structure BookAt (w : World) (bk : Nat) (vw vr : Value) (W R : List Value) (P : Nat → Prop) : Prop where
  box : w.heap[bk]? = some (.cells #[vw, .slice none 0 0, .slice none 0 0, vr] 40 (0, 0))
  roww : w.ownsRow 0 30 1 vw W.length W
  rowr : w.ownsRow 0 46 1 vr R.length R
  pb : P bk
  pw : ∀ x, vw.ownBlock = some x → P x ∧ x ≠ bk ∧ vr.ownBlock ≠ some x
  pr : ∀ x, vr.ownBlock = some x → P x ∧ x ≠ bk
  each : ∀ v ∈ W ++ R, ∀ x, v.ownBlock = some x → P x ∧ x ≠ bk ∧ vw.ownBlock ≠ some x ∧ vr.ownBlock ≠ some x
  fw : ∀ i (h : i < W.length), ∃ n, n ≤ 100000000 ∧ Full w W[i] (markW (i / 4 * 4)) n
  fr : ∀ i (h : i < R.length), ∃ n, n ≤ 100000000 ∧ FullR w R[i] (-1000 - ((i / 4 : Nat) : Int)) n
theorem BookAt.cells {w : World} {bk : Nat} {vw vr : Value} {W R : List Value} {P : Nat → Prop} (h : BookAt w bk vw vr W R P) : w.cell? ⟨bk, 0, none⟩ = some vw ∧ w.cell? ⟨bk, 1, none⟩ = some (.slice none 0 0) ∧ w.cell? ⟨bk, 2, none⟩ = some (.slice none 0 0) ∧ w.cell? ⟨bk, 3, none⟩ = some vr := by
  have := h.box
  simp [World.cell?, this]
theorem BookAt.frozen {w : World} {bk : Nat} {vw vr : Value} {W R : List Value} {P : Nat → Prop} (h : BookAt w bk vw vr W R P) (o : Nat) : w.frozen? ⟨bk, o, none⟩ = false := by
  have := h.box
  simp [World.frozen?, this]
theorem BookAt.blt {w : World} {bk : Nat} {vw vr : Value} {W R : List Value} {P : Nat → Prop} (h : BookAt w bk vw vr W R P) : bk < w.heap.size := World.block_lt_of_cell? w _ h.cells.1
/-- the book is as it was where none of its blocks turned -/
theorem BookAt.kept {w w' : World} {bk : Nat} {vw vr : Value} {W R : List Value} {P S : Nat → Prop} (h : BookAt w bk vw vr W R P) (ho : Only S w w') (hd : ∀ x, S x → ¬ P x) : BookAt w' bk vw vr W R P := by
  have hb : ∀ x, P x → x < w.heap.size → w'.heap[x]? = w.heap[x]? := fun x hp hx => ho.block x hx (fun hs => hd x hs hp)
  refine ⟨(hb bk h.pb h.blt).trans h.box, own_kept h.roww fun g hg => hb g (h.pw g hg).1 (World.ownsRow.lt h.roww g hg).2, own_kept h.rowr fun g hg => hb g (h.pr g hg).1 (World.ownsRow.lt h.rowr g hg).2, h.pb, h.pw, h.pr, h.each, ?_, ?_⟩
  · intro i hi
    obtain ⟨n, hn, hf⟩ := h.fw i hi
    exact ⟨n, hn, hf.kept ho.size fun g hg => hb g (h.each W[i] (List.mem_append.2 (.inl (List.getElem_mem hi))) g hg).1 (hf.lt g hg)⟩
  · intro i hi
    obtain ⟨n, hn, hf⟩ := h.fr i hi
    exact ⟨n, hn, hf.kept ho.size fun g hg => hb g (h.each R[i] (List.mem_append.2 (.inr (List.getElem_mem hi))) g hg).1 (hf.lt g hg)⟩
theorem BookAt.mono {w : World} {bk : Nat} {vw vr : Value} {W R : List Value} {P P' : Nat → Prop} (h : BookAt w bk vw vr W R P) (hp : ∀ x, P x → P' x) : BookAt w bk vw vr W R P' :=
  ⟨h.box, h.roww, h.rowr, hp _ h.pb, fun x hx => ⟨hp x (h.pw x hx).1, (h.pw x hx).2⟩, fun x hx => ⟨hp x (h.pr x hx).1, (h.pr x hx).2⟩, fun v hv x hx => ⟨hp x (h.each v hv x hx).1, (h.each v hv x hx).2⟩, h.fw, h.fr⟩
end Go.Proofs.Ytneepapppbchnaa
