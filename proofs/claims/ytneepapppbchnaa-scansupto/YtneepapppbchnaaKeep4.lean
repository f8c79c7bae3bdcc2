/- The walk of keepRecords. -/
import Derived.Test.YtneepapppbchnaaKeep3
namespace Go.Proofs.Ytneepapppbchnaa
open Go.RowKit
set_option linter.unusedVariables false

theorem inner_append (a b : List (RecL × Value)) : inner (a ++ b) = inner a ++ inner b := by unfold inner; rw [List.map_append, List.filterMap_append]
theorem inner_take_succ (rs : List (RecL × Value)) (k : Nat) (h : k < rs.length) : inner (rs.take (k + 1)) = inner (rs.take k) ++ rs[k].2.ownBlock.toList := by
  rw [List.take_succ_eq_append_getElem h, inner_snoc]
theorem inner_sub (rs : List (RecL × Value)) (k x : Nat) (h : x ∈ inner (rs.take k)) : x ∈ inner rs := by
  rw [← List.take_append_drop k rs, inner_append]
  exact List.mem_append.2 (.inl h)
theorem nodup_at {rs : List (RecL × Value)} (h : (inner rs).Nodup) (k : Nat) (hk : k < rs.length) (y : Nat) (hy : rs[k].2.ownBlock = some y) : y ∉ inner (rs.take k) := by
  intro hm
  rw [← List.take_append_drop k rs, inner_append, List.drop_eq_getElem_cons hk, List.nodup_append] at h
  refine h.2.2 y hm y ?_ rfl
  exact mem_inner.2 ⟨rs[k], List.mem_cons_self, hy⟩
theorem bnd24 {n m : Nat} (h : n ≤ 1000000) (h2 : m ≤ 4) : n + m + 1 ≤ maxLen ∧ (n + m + 1) * 24 ≤ 140737488355328 := by unfold maxLen; omega
theorem bnd48 {n : Nat} (h : n ≤ 1000004) : n + 1 ≤ maxLen ∧ (n + 1) * 48 ≤ 140737488355328 := by unfold maxLen; omega
theorem beyond (kd : Int) (k : Nat) (rows : List Q4) (hall : ∀ q (h : q < rows.length), rows[q] = ⟨kd, k, 0, .slice none 0 0⟩) : AllK rows kd := by
  intro j hj
  rw [hall j hj]
  exact ⟨rfl, rfl⟩
set_option maxHeartbeats 1000000 in
set_option maxRecDepth 100000 in
theorem keepRecords_any (bk B : Nat) (vw vr l : Value) (W R : List Value) (P : Nat → Prop) (rs : List (RecL × Value)) (w : World) (hb : BookAt w bk vw vr W R P) (hR : Recs B w l rs) (hP : ∀ x ∈ blocksOf l rs, ¬ P x) (h4 : W.length % 4 = 0) (h4r : R.length % 4 = 0) (hW : W.length + 4 * rs.length ≤ 1000000000) (hRl : R.length ≤ 1000000) (hrs : rs.length ≤ 1000000) (hwr : ∀ p ∈ rs, p.1.writes.length ≤ 1000) :
    Calls Try.prog 29 #[.pointer (some ⟨bk, 0, none⟩), l] w fun e w' => e = .returned (.tuple #[]) ∧ ∃ vw' vr' W' R', BookAt w' bk vw' vr' W' R' (fun x => P x ∨ x ∈ blocksOf l rs ∨ w.heap.size ≤ x) ∧ W'.length = W.length + 4 * rs.length ∧ R'.length = R.length + 4 ∧ Only (fun x => P x ∨ x ∈ blocksOf l rs ∨ w.heap.size ≤ x) w w' := by
  obtain ⟨i0, hi, hz0, hz1, hz2⟩ := info_parts Try.info32
  obtain ⟨j0, hj, hy0, hy1, hy2⟩ := info_parts Try.info46
  obtain ⟨hnd, hvi⟩ := recs_parts hR
  obtain ⟨la, lc, hll⟩ := own_form hR.row
  subst hll
  have hlb : ∀ x, (Value.slice la rs.length lc).ownBlock = some x → ¬ P x ∧ x ∉ inner rs ∧ x < w.heap.size := fun x hx => ⟨hP x (mem_blocks.2 (.inl hx)), hvi x hx, (World.ownsRow.lt hR.row x hx).2⟩
  have hib : ∀ x, x ∈ inner rs → ¬ P x ∧ x < w.heap.size := by
    intro x hx
    have hm : x ∈ blocksOf (.slice la rs.length lc) rs := by rw [blocks_eq]; exact List.mem_append.2 (.inr hx)
    exact ⟨hP x hm, hR.lt x hm⟩
  go_enter Try.func29, Try.ntmps29
  go_wp2_with fail
  go_loopw [4] (fun i wr => ∃ (k : Nat) (vw' : Value) (W' : List Value), k ≤ rs.length ∧ i = .int .i64 (k : Int) ∧ BookAt wr bk vw' vr W' R (fun x => P x ∨ x ∈ inner (rs.take k) ∨ w.heap.size ≤ x) ∧ W'.length = W.length + 4 * k ∧ Only (fun x => P x ∨ x ∈ inner (rs.take k)) w wr) (fun i _ => rs.length - (intOf i).toNat)
  case atStart => exact ⟨0, vw, W, Nat.zero_le _, rfl, hb.mono (fun x hx => .inl hx), rfl, Only.refl _ _⟩
  case round =>
    obtain ⟨k, vw', W', hk, rfl, hB, hWl, hon⟩ := hrel
    by_cases hkl : k < rs.length
    · obtain ⟨b, cap, hsl, hbw, hat⟩ := hR.at (by omega)
      injection hsl with hsa _ hsc
      subst hsa
      clear hsc
      obtain ⟨_, _, _, x3⟩ := hat k hkl
      have hlk : ∀ o, wr.cell? ⟨b, o, none⟩ = w.cell? ⟨b, o, none⟩ := fun o => World.cell?_of_block (hon.block b (hlb b rfl).2.2 (by
        rintro (q | q)
        · exact (hlb b rfl).1 q
        · exact (hlb b rfl).2.1 (inner_sub rs k b q)))
      rw [← hlk] at x3
      have hwsk : Ws wr rs[k].2 rs[k].1.writes := (hR.each rs[k] (List.getElem_mem hkl)).kept fun g hg => hon.block g (hib g (mem_inner.2 ⟨rs[k], List.getElem_mem hkl, hg⟩)).2 (by
        rintro (q | q)
        · exact (hib g (mem_inner.2 ⟨rs[k], List.getElem_mem hkl, hg⟩)).1 q
        · exact nodup_at hnd k hkl g hg q)
      have hno : ∀ x, rs[k].2.ownBlock = some x → ¬ (P x ∨ x ∈ inner (rs.take k) ∨ w.heap.size ≤ x) := by
        rintro x hx (q | q | q)
        · exact (hib x (mem_inner.2 ⟨rs[k], List.getElem_mem hkl, hx⟩)).1 q
        · exact nodup_at hnd k hkl x hx q
        · have := (hib x (mem_inner.2 ⟨rs[k], List.getElem_mem hkl, hx⟩)).2; omega
      have hwl := hwr rs[k] (List.getElem_mem hkl)
      have HIN := hide (inner_take_succ rs k hkl)
      generalize rs[k].1.writes = wws at *
      generalize rs[k].2 = v at *
      obtain ⟨ia, ic, hiv⟩ := hwsk.form
      subst hiv
      have HON := hide hon
      have HSZ := hide hon.size
      clear hlk hat hon
      go_wp2_with fail
      refine (keepWrites_any bk vw' vr _ W' R _ wws wr hB hwsk hno (by omega) (by omega) (by omega)).mono ?_
      rintro e w2 ⟨rfl, vw2, W2, hB2, hW2, hon2⟩
      have HB2 := hide hB2
      have HON2 := hide hon2
      clear hB2 hon2
      go_wp2_with fail
      go_roundw
      case rel =>
        have hin : ∀ x, x ∈ inner (rs.take (k + 1)) ↔ x ∈ inner (rs.take k) ∨ (Value.slice ia wws.length ic).ownBlock = some x := by
          intro x
          rw [HIN.out, List.mem_append, Option.mem_toList]
        refine ⟨k + 1, vw2, W2, by omega, by go_num, HB2.out.mono ?_, by omega, (Only.trans (S := fun x => P x ∨ x ∈ inner (rs.take (k + 1))) ⟨HON.out.os, HON.out.tape, HON.out.output, HON.out.size, fun x hx hn => HON.out.block x hx (fun q => hn (q.imp id (fun q => (hin x).2 (.inl q))))⟩ HON2.out ?_)⟩
        · rintro x ((q | q | q) | q | q)
          · exact .inl q
          · exact .inr (.inl ((hin x).2 (.inl q)))
          · exact .inr (.inr q)
          · exact .inr (.inl ((hin x).2 (.inr q)))
          · exact .inr (.inr (Nat.le_trans HSZ.out q))
        · rintro x hx ((q | q | q) | q)
          · exact .inl q
          · exact .inr ((hin x).2 (.inl q))
          · omega
          · exact .inr ((hin x).2 (.inr q))
      case measure => simp [intOf]; omega
    · obtain rfl : k = rs.length := by omega
      rw [List.take_length] at hB hon
      obtain ⟨ra, rc, hvr⟩ := own_form hB.rowr
      subst hvr
      have q3 := hB.cells.2.2.2
      go_wp2_with fail
      generalize hkd : (-1000 - (R.length : Int) / 4) = kd at *
      have HKD : Hid (kd = -1000 - ((R.length / 4 : Nat) : Int)) := by show _ = _; omega
      clear hkd
      have hin : ∀ x, x ∈ blocksOf (.slice la rs.length lc) rs ↔ (Value.slice la rs.length lc).ownBlock = some x ∨ x ∈ inner rs := by
        intro x
        rw [blocks_eq, List.mem_append, Option.mem_toList]
      have HPP : Hid (∀ x, (P x ∨ x ∈ inner rs ∨ w.heap.size ≤ x) → P x ∨ x ∈ blocksOf (.slice la rs.length lc) rs ∨ w.heap.size ≤ x) := by
        rintro x (q | q | q)
        · exact .inl q
        · exact .inr (.inl ((hin x).2 (.inr q)))
        · exact .inr (.inr q)
      have hmap : (rs.map toQ).length = rs.length := List.length_map _
      have hrow0 : Rs wr (.slice la rs.length lc) (rs.map toQ) := by
        unfold Rs
        rw [← recCells_eq, hmap]
        exact own_kept hR.row fun g hg => hon.block g (hlb g hg).2.2 (by
          rintro (q | q)
          · exact (hlb g hg).1 q
          · exact (hlb g hg).2.1 q)
      have hK0 : KR w (fun x => P x ∨ x ∈ blocksOf (.slice la rs.length lc) rs ∨ w.heap.size ≤ x) bk kd vw' W' R wr (.slice la rs.length lc) (.slice ra R.length rc) (rs.map toQ) [] := by
        refine ⟨⟨_, hB.toG, fun x hx => ⟨hx.2, HPP.out x hx.1⟩, fun y hy hp => ?_, fun x hx => absurd hx (by simp)⟩, hrow0, fun y hy => .inr (.inl ((hin y).2 (.inl hy))), fun h => absurd rfl h, ?_, fun x hx => .inr (.inr hx), .inl hb.pb⟩
        · rcases hp.1 with q | q | q
          · exact (hlb y hy).1 q
          · exact (hlb y hy).2.1 q
          · have := (hlb y hy).2.2; omega
        · exact ⟨hon.os, hon.tape, hon.output, hon.size, fun x hx hn => hon.block x hx (fun q => hn (HPP.out x (q.imp id .inl)))⟩
      obtain ⟨PP, hPP⟩ : ∃ PP : Nat → Prop, PP = fun x => P x ∨ x ∈ blocksOf (.slice la rs.length lc) rs ∨ w.heap.size ≤ x := ⟨_, rfl⟩
      rw [← hPP] at hK0
      have HPE := hide hPP
      clear hPP
      have HMAP := hide hmap
      have HWL := hide hWl
      have H4R := hide h4r
      clear q3 hB hon hrow0 hlb hib hin hvi hnd hwr hR hb hP hmap hWl h4 h4r hW
      go_loopw [1, 6, 7] (fun u i _ wr => ∃ (k : Nat) (rows : List Q4) (vr' : Value) (G : List Value), k ≤ 4 ∧ i = .int .i64 (k : Int) ∧ KR w PP bk kd vw' W' R wr u vr' rows G ∧ G.length = k ∧ rows.length = rs.length + k) (fun _ i _ _ => 4 - (intOf i).toNat)
      case atStart => exact ⟨0, _, _, [], by omega, rfl, hK0, rfl, HMAP.out⟩
      case round =>
        obtain ⟨k, rows, vr', G, hk, rfl, hK, hGl, hrl⟩ := hrel
        have hrb : rows.length ≤ 1000004 := by omega
        have hgb : G.length ≤ 4 := by omega
        have HGL := hide hGl
        have HRL0 := hide hrl
        clear hK0 hGl hrl
        by_cases hk4 : k < 4
        · obtain ⟨ua, uc, hu⟩ := own_form hK.row
          subst hu
          go_wp2_with fail
          go_loopw [7] (fun j wr => ∃ (m : Nat) (rows' : List Q4), m ≤ rows.length ∧ j = .int .i64 (m : Int) ∧ KR w PP bk kd vw' W' R wr (.slice ua rows.length uc) vr' rows' G ∧ rows'.length = rows.length ∧ (∀ q (h : q < rows'.length), q < m → rows'[q] = ⟨kd, k, 0, .slice none 0 0⟩)) (fun j _ => rows.length - (intOf j).toNat)
          case atStart => exact ⟨0, rows, Nat.zero_le _, rfl, hK, rfl, fun q _ h => absurd h (by omega)⟩
          case round =>
            obtain ⟨m, rows', hm, rfl, hK', hrl', hfill⟩ := hrel
            clear hK
            by_cases hml : m < rows.length
            · have hur : ∃ b, ua = some ⟨b, 0, none⟩ := by
                rcases hK'.row.2 with ⟨h1, h2⟩ | ⟨g, cap, cur, h1, _⟩
                · omega
                · injection h1 with h1; exact ⟨g, h1⟩
              obtain ⟨b, hub⟩ := hur
              subst hub
              have hkr : m < rows'.length := by omega
              have hcs := World.ownsRow.cells hK'.row (g := b) rfl
              obtain ⟨y0, y1, y2, y3⟩ := cells4_get _ m hkr
              have x0 := hcs _ _ y0
              have x1 := hcs _ _ y1
              have x2 := hcs _ _ y2
              have x3 := hcs _ _ y3
              simp only [Addr.add_lit, Nat.zero_add] at x0 x1 x2 x3
              have z0 := own_frozen hK'.row (g := b) rfl (m * 4)
              have z1 := own_frozen hK'.row (g := b) rfl (m * 4 + 1)
              have z2 := own_frozen hK'.row (g := b) rfl (m * 4 + 2)
              have z3 := own_frozen hK'.row (g := b) rfl (m * 4 + 3)
              have HFI := hide hfill
              have HRL := hide hrl'
              clear hcs y0 y1 y2 y3 hfill hrl'
              generalize rows'[m].k = o0 at *
              generalize rows'[m].t = o1 at *
              generalize rows'[m].g = o2 at *
              generalize rows'[m].v = o3 at *
              go_wp2_with fail
              go_roundw
              case rel =>
                refine ⟨m + 1, rows'.set m ⟨kd, k, 0, .slice none 0 0⟩, by omega, by go_num, hK'.set (b := b) rfl m hkr ⟨kd, k, 0, .slice none 0 0⟩ ⟨rfl, rfl⟩, by rw [List.length_set]; exact HRL.out, ?_⟩
                intro q hq hqm
                rw [List.getElem_set]
                split
                · rfl
                · exact HFI.out q (by rw [List.length_set] at hq; exact hq) (by omega)
              case measure => simp [intOf]; omega
            · obtain rfl : m = rows.length := by omega
              have hall : AllK rows' kd := beyond kd k rows' (fun q hq => hfill q hq (by omega))
              obtain ⟨PB, hG, _, _, _⟩ := hK'.ex
              obtain ⟨ra', rc', hvr'⟩ := own_form hG.rowr
              subst hvr'
              have q3 := hG.cells.2
              have hbk := hG.blt
              have hvb : (Value.slice ra' (R.length + G.length) rc').ownBlock ≠ some bk := fun e => (hG.pr bk e).2 rfl
              obtain ⟨l1, l2⟩ := bnd24 hRl hgb
              obtain ⟨l3, l4⟩ := bnd48 (n := rows'.length) (by rw [hrl']; exact hrb)
              have HRL := hide hrl'
              have fz3 := hG.frozen 3
              clear hfill hrl'
              go_upto_region 13 with (at_builtin; go_must (refine wpList_append_two _ rfl _ _ 38 38 rfl 46 j0 _ 1 24 Try.underlying38 hj hy0 hy1 hy2 rfl (by decide) _ _ _ rfl (World.ownsRow.alloc hG.rowr _) _ 1 _ rfl (src_alloc wr 1 _ _ _ Try.underlying38 1 _ #[.slice ua rows.length uc] rfl rfl) (fun _ => by decide) l1 l2 ?_; intro g4 w5 hown4 hold4 hgr4 bes4 hnn4; obtain ⟨ga4, gc4, hg4⟩ := own_form hown4; subst hg4; have hbx : w5.heap[bk]? = wr.heap[bk]? := (hgr4.block bk (Nat.lt_of_lt_of_le hbk (by simp)) (fun e => hvb e.symm)).trans (Below.heap_alloc _ _ _ hbk); have r0 : w5.cell? ⟨bk, 3, none⟩ = some (.slice ra' (R.length + G.length) rc') := (World.cell?_of_block hbx).trans q3; have t0 : w5.frozen? ⟨bk, 3, none⟩ = false := (World.frozen?_of_block hbx).trans fz3))
              have hK5 := hK'.keep hall hown4 hgr4 bes4
              clear hown4 hold4 hgr4 bes4 hnn4 hbx r0 t0 hG q3 hbk hvb fz3 hK' l1 l2
              generalize w5.setCell ⟨bk, 3, none⟩ (.slice ga4 (R.length + G.length + 1) gc4) = w6 at *
              have hrow6 : w6.ownsRow 0 32 4 (.slice ua rows.length uc) rows'.length (cells4 rows') := hK5.row
              go_wp2_with (at_builtin; go_must (refine wpList_append_two _ rfl _ _ 46 46 rfl 32 i0 _ 4 48 Try.underlying46 hi hz0 hz1 hz2 rfl (by decide) _ _ _ rfl (World.ownsRow.alloc hrow6 _) _ 1 _ rfl (src_alloc w6 4 _ _ _ Try.underlying46 1 _ #[.int .i64 kd, .int .i64 0, .int .i64 0, .slice none 0 0] rfl rfl) (fun _ => by decide) l3 l4 ?_; intro g5 w7 hown5 hold5 hgr5 bes5 hnn5; obtain ⟨ga5, gc5, hg5⟩ := own_form hown5; subst hg5))
              go_roundw
              case rel =>
                exact ⟨k + 1, rows' ++ [⟨kd, 0, 0, .slice none 0 0⟩], _, _, hk4, by go_num, hK5.more hall ⟨rfl, rfl⟩ hown5 hgr5 bes5, by rw [List.length_append, HGL.out]; rfl, by rw [List.length_append, HRL.out, HRL0.out, List.length_singleton, Nat.add_assoc]⟩
              case measure => simp [intOf]; omega
        · obtain rfl : k = 4 := by omega
          have hd := hK.done H4R.out HGL.out HKD.out (by omega)
          have ho := hK.only
          rw [HPE.out] at hd ho
          have HD := hide hd
          have HO := hide ho
          clear hK hd ho
          go_wp2_with fail
          exact bodyPost_end (v := .tuple #[]) (by simp [results, Try.results29, go_sem]) rfl ⟨rfl, vw', vr', W', R ++ G, HD.out, HWL.out, by rw [List.length_append, HGL.out], HO.out⟩
end Go.Proofs.Ytneepapppbchnaa
