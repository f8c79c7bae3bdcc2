/- The walk of reads. -/
import Derived.Test.YtneepapppbchnaaMade2
namespace Go.Proofs.Ytneepapppbchnaa
open Go.RowKit
set_option linter.unusedVariables false

/-- a record that was read has few writes -/
theorem recAt_small {l : List UInt8} (h : fB l = true) : (recAt l).writes.length ≤ 1000 := by
  unfold fB at h
  simp only [Bool.and_eq_true, decide_eq_true_eq] at h
  obtain ⟨kn, tn, gn, e1, e2, e3, h1, h6, ht, hg, hw, hn⟩ := rec_nat h.1.2
  show (gW (fK l) (fP l)).length ≤ 1000
  by_cases hk : kn = 1 ∨ kn = 2 ∨ kn = 5
  · have := (hw hk).2.1; omega
  · have := hn (by omega); omega
theorem recs_small {n : Nat} {l : List UInt8} (h : okN n l) : ∀ r ∈ recs n l, r.writes.length ≤ 1000 := by
  intro r hr
  unfold recs at hr
  obtain ⟨i, hi, rfl⟩ := List.mem_map.1 hr
  exact recAt_small (h i (List.mem_range.1 hi))
/-- the slice v holds these records -/
def WantAt (w : World) (v : Value) (rs : List (RecL × Value)) : Prop :=
  ∃ a cap, v = .slice a rs.length cap ∧ ∀ i (h : i < rs.length), ∃ b, a = some ⟨b, 0, none⟩ ∧ b < w.heap.size ∧ (w.cell? ⟨b, i * 4, none⟩ = some (.int .i64 (rs[i].1.kind : Nat)) ∧ w.cell? ⟨b, i * 4 + 1, none⟩ = some (.int .i64 (rs[i].1.time : Nat)) ∧ w.cell? ⟨b, i * 4 + 2, none⟩ = some (.int .i64 (rs[i].1.gen : Nat)) ∧ w.cell? ⟨b, i * 4 + 3, none⟩ = some rs[i].2) ∧ WsAt w rs[i].2 rs[i].1.writes
theorem Recs.want {B : Nat} {w : World} {v : Value} {rs : List (RecL × Value)} (h : Recs B w v rs) : WantAt w v rs := by
  obtain ⟨a, cap, rfl⟩ := own_form h.row
  refine ⟨a, cap, rfl, fun i hi => ?_⟩
  obtain ⟨b, cap', e, hlt, hat⟩ := h.at (by omega)
  injection e with e _ _
  exact ⟨b, e, hlt, hat i hi, (h.each rs[i] (List.getElem_mem hi)).at⟩
theorem WantAt.below {w w' : World} {v : Value} {rs : List (RecL × Value)} (h : WantAt w v rs) (hb : Below w.heap.size w w') : WantAt w' v rs := by
  obtain ⟨a, cap, rfl, hat⟩ := h
  refine ⟨a, cap, rfl, fun i hi => ?_⟩
  obtain ⟨b, e, hlt, ⟨c0, c1, c2, c3⟩, hw⟩ := hat i hi
  exact ⟨b, e, Nat.lt_of_lt_of_le hlt hb.size, ⟨(hb.cell hlt).trans c0, (hb.cell hlt).trans c1, (hb.cell hlt).trans c2, (hb.cell hlt).trans c3⟩, hw.below hb⟩
theorem WantAt.take {w : World} {a : Option Addr} {cap : Nat} {rs : List (RecL × Value)} (h : WantAt w (.slice a rs.length cap) rs) (n : Nat) (hn : n ≤ rs.length) : WantAt w (.slice a n cap) (rs.take n) := by
  obtain ⟨a', cap', e, hat⟩ := h
  injection e with e1 _ e3
  subst e1 e3
  have hl : (rs.take n).length = n := by rw [List.length_take]; omega
  refine ⟨a, cap, by rw [hl], fun i hi => ?_⟩
  have hi' : i < rs.length := by omega
  obtain ⟨b, e, hlt, hc, hw⟩ := hat i hi'
  have hg : (rs.take n)[i] = rs[i] := List.getElem_take
  rw [hg]
  exact ⟨b, e, hlt, hc, hw⟩
set_option maxHeartbeats 2000000 in
set_option maxRecDepth 100000 in
theorem reads_any (l rest : List UInt8) (rows : List RecL) (v : Value) (rs : List (RecL × Value)) (w : World) (hl : l = framesL rows ++ rest) (hok : ∀ r ∈ rows, r.ok) (hrest : fB rest = false) (hlen : l.length ≤ 140737488355328) (hw : WantAt w v rs) (he : rs.map (·.1) = rows) (hn : rows.length ≤ 100) :
    Calls Try.prog 17 #[.string (textOf l), v, .int .i64 ((framesL rows).length : Nat)] w fun e w' => e = .returned (.bool true) ∧ Below w.heap.size w w' := by
  obtain ⟨s1, s2, s3, s4⟩ := scan_frames rows hok rest hrest
  rw [← hl] at s1 s2 s3 s4
  have hcnt : ∀ n, okN n l → n ≤ 2000000000000 := by
    intro n hnn
    rcases Nat.lt_or_ge rows.length n with h | h
    · have := hnn rows.length h
      rw [s3] at this; cases this
    · omega
  have HC := hide hcnt
  have S1 := hide s1
  have S2 := hide s2
  have S3 := hide s3
  have S4 := hide s4
  have HE := hide he
  have HFEW : Hid (∀ r ∈ rows, r.writes.length ≤ 1000) := by
    intro r hr
    have := recs_small s1
    rw [s4] at this
    exact this r hr
  have hrl : rs.length = rows.length := by rw [← he, List.length_map]
  obtain ⟨wa, wcap, hv, hat⟩ := hw
  subst hv
  rw [hrl]
  have hfl : (framesL rows).length ≤ 140737488355328 := by
    have := taken_le _ _ s1; omega
  clear s1 s2 s3 s4 hcnt hl hrest he hok
  generalize hF : (framesL rows).length = F at *
  go_enter Try.func17, Try.ntmps17
  go_wp2_with fail
  refine (pScan_any l _ hlen HC.out).mono ?_
  rintro e w1 ⟨n', v', rs', k1', k2', rfl, k3', k4', k5'⟩
  have hnn : n' = rows.length := okN_unique k1' k2' S1.out S3.out
  subst hnn
  rw [S2.out]
  rw [S4.out] at k3'
  have hrl' : rs'.length = rows.length := by rw [← k3', List.length_map]
  have hW' := k4'.want
  obtain ⟨wa', wcap', hv', hat'⟩ := hW'
  subst hv'
  rw [hrl']
  have HE' := hide k3'
  have HRL := hide hrl
  have HRL' := hide hrl'
  have HF := hide hF
  have HK1 := hide k1'
  clear k1' k2' k3' k4' hrl hrl' hF
  go_wp2_with fail
  go_loopw [9, 10, 11, 12] (fun i _ _ _ wr => ∃ k : Nat, k ≤ rows.length ∧ i = .int .i64 (k : Int) ∧ Below w1.heap.size w1 wr) (fun i _ _ _ _ => rows.length - (intOf i).toNat)
  case atStart => exact ⟨0, Nat.zero_le _, rfl, Below.refl _ _⟩
  case round =>
    obtain ⟨k, hk, rfl, hbel⟩ := hrel
    have hbw : Below w.heap.size w wr := k5'.trans (hbel.mono k5'.size)
    by_cases hkl : k < rows.length
    · have hk1 : k < rs.length := by rw [HRL.out]; exact hkl
      have hk2 : k < rs'.length := by rw [HRL'.out]; exact hkl
      obtain ⟨b1, hb1, hlt1, ⟨c0, c1, c2, c3⟩, hws1⟩ := hat k hk1
      obtain ⟨b2, hb2, hlt2, ⟨d0, d1, d2, d3⟩, hws2⟩ := hat' k hk2
      subst hb1 hb2
      have e1 : rs[k].1 = rows[k] := by
        have := congrArg (fun l => l[k]?) HE.out
        simp only [List.getElem?_map, List.getElem?_eq_getElem hk1, List.getElem?_eq_getElem hkl, Option.map_some] at this
        exact Option.some.inj this
      have e2 : rs'[k].1 = rows[k] := by
        have := congrArg (fun l => l[k]?) HE'.out
        simp only [List.getElem?_map, List.getElem?_eq_getElem hk2, List.getElem?_eq_getElem hkl, Option.map_some] at this
        exact Option.some.inj this
      rw [e1] at c0 c1 c2 hws1
      rw [e2] at d0 d1 d2 hws2
      have hfew := HFEW.out rows[k] (List.getElem_mem hkl)
      generalize rows[k].kind = kk at *
      generalize rows[k].time = tt at *
      generalize rows[k].gen = gg at *
      generalize rows[k].writes = wws at *
      generalize rs[k].2 = v1 at *
      generalize rs'[k].2 = v2 at *
      clear e1 e2
      replace c0 := (hbw.cell hlt1).trans c0
      replace c1 := (hbw.cell hlt1).trans c1
      replace c2 := (hbw.cell hlt1).trans c2
      replace c3 := (hbw.cell hlt1).trans c3
      replace d0 := (hbel.cell hlt2).trans d0
      replace d1 := (hbel.cell hlt2).trans d1
      replace d2 := (hbel.cell hlt2).trans d2
      replace d3 := (hbel.cell hlt2).trans d3
      replace hws1 := hws1.below hbw
      replace hws2 := hws2.below hbel
      have hx1 : b1 < wr.heap.size := World.block_lt_of_cell? wr _ c0
      have hx2 : b2 < wr.heap.size := World.block_lt_of_cell? wr _ d0
      obtain ⟨q1, q2, hq⟩ := hws1.form
      obtain ⟨q3, q4, hq'⟩ := hws2.form
      subst hq hq'
      have HAT := hide hat
      have HAT' := hide hat'
      clear hat hat' hbw
      go_wp2_with fail
      obtain ⟨WX, hWX⟩ : ∃ WX, WX = (wr.alloc (.cells #[.int .i64 kk, .int .i64 tt, .int .i64 gg, .slice q3 wws.length q4] 32)).alloc (.cells #[.int .i64 kk, .int .i64 tt, .int .i64 gg, .slice q1 wws.length q2] 32) := ⟨_, rfl⟩
      rw [← hWX]
      have hRA : RB WX wr.heap.size kk tt gg (.slice q3 wws.length q4) := by
        rw [hWX]
        refine (RB_new wr kk tt gg (.slice q3 wws.length q4)).kept ?_
        rw [Below.heap_alloc _ _ _ (by simp)]
      have hRB : RB WX (wr.heap.size + 1) kk tt gg (.slice q1 wws.length q2) := by
        rw [hWX]
        have := RB_new (wr.alloc (.cells #[.int .i64 kk, .int .i64 tt, .int .i64 gg, .slice q3 wws.length q4] 32)) kk tt gg (.slice q1 wws.length q2)
        simpa only [World.size_alloc] using this
      have hBX : Below wr.heap.size wr WX := by
        rw [hWX]
        exact (box_below wr _).alloc (by simp) _
      have hbX : Below w1.heap.size w1 WX := hbel.trans (hBX.mono hbel.size)
      clear hWX c0 c1 c2 c3 d0 d1 d2 d3 hx1 hx2
      go_loopw [12] (fun j wx => ∃ q : Nat, q ≤ wws.length ∧ j = .int .i64 (q : Int) ∧ Below WX.heap.size WX wx) (fun j _ => wws.length - (intOf j).toNat)
      case atStart => exact ⟨0, Nat.zero_le _, rfl, Below.refl _ _⟩
      case round =>
        obtain ⟨q, hq, rfl, hbx⟩ := hrel
        obtain ⟨m0, m1, m2, m3⟩ := (hRA.kept (hbx.block _ hRA.lt)).cells
        obtain ⟨n0, n1, n2, n3⟩ := (hRB.kept (hbx.block _ hRB.lt)).cells
        by_cases hql : q < wws.length
        · rcases hws1 with ⟨h0, h00⟩ | ⟨xb, xo, xc, hxe, hcx⟩
          · rw [h00] at hql; exact absurd hql (by simp)
          rcases hws2 with ⟨h0, h00⟩ | ⟨yb, yo, yc, hye, hcy⟩
          · rw [h00] at hql; exact absurd hql (by simp)
          injection hxe with hxa _ hxc
          injection hye with hya _ hyc
          subst hxa hya
          clear hxc hyc
          have hB' := hBX.trans (hbx.mono hBX.size)
          obtain ⟨x0, x1, x2⟩ := hcx.below hB' q hql
          obtain ⟨y0, y1, y2⟩ := hcy.below hB' q hql
          generalize wws[q] = r at *
          obtain ⟨ck, cd, cv⟩ := r
          simp only at x0 x1 x2 y0 y1 y2
          have HBX := hide hbx
          clear hbx hB' hcx hcy hRA hRB hBX
          go_wp2_with fail
          go_quiet (fail)
          go_wp2_with fail
          go_roundw
          case rel => exact ⟨q + 1, by omega, by go_num, below_drewN HBX.out nq⟩
          case measure => simp [intOf]; omega
        · go_wp2_with fail
          go_roundw
          case rel => exact ⟨k + 1, by omega, by go_num, hbX.trans (hbx.mono hbX.size)⟩
          case measure => simp [intOf]; omega
    · obtain rfl : k = rows.length := by omega
      go_wp2_with fail
      go_ret
      exact ⟨rfl, hbw⟩
end Go.Proofs.Ytneepapppbchnaa
