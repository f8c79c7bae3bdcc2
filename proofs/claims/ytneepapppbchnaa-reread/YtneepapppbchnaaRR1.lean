/- The walk of Reread. -/
import Derived.Test.YtneepapppbchnaaRR0
namespace Go.Proofs.Ytneepapppbchnaa
open Go.RowKit
set_option linter.unusedVariables false

theorem rec_sized {k t g : Int} {ws : List WrL} (h : recB k t g ws = true) : SizedAll ws ∧ ws.length ≤ 6 := by
  obtain ⟨kn, tn, gn, e1, e2, e3, h1, h6, ht, hg, hw, hn⟩ := rec_nat h
  by_cases hk : kn = 1 ∨ kn = 2 ∨ kn = 5
  · obtain ⟨_, h6, hs⟩ := hw hk
    refine ⟨fun i hi => ?_, h6⟩
    have := hs i hi
    exact ⟨Nat.le_trans this.1 (by decide), Nat.le_trans this.2 (by decide)⟩
  · have := hn (by omega)
    exact ⟨fun i hi => absurd hi (by omega), by omega⟩
theorem RS.start (w : World) : RS w (w.alloc (.cells #[.int .i64 0] 3)) (.string ⟨#[]⟩) (.slice (some ⟨w.heap.size, 0, none⟩) 1 1) (.slice none 0 0) [] :=
  ⟨rfl, ⟨rfl, .inr ⟨w.heap.size, 1, #[.int .i64 0], rfl, Nat.zero_le _, heap_alloc_new w _, Nat.le_refl _, by decide, rfl, rfl⟩⟩, Recs_nil _ _, fun p hp => absurd hp (by simp), ⟨w.heap.size, rfl, Nat.le_refl _, by simp [blocksOf, Value.ownBlock]⟩, box_below w _⟩
theorem bnds {n : Nat} (h : n ≤ 8) : n + 1 ≤ maxLen ∧ (n + 1) * 48 ≤ 140737488355328 ∧ n + 1 + 1 ≤ maxLen ∧ (n + 1 + 1) * 8 ≤ 140737488355328 := by unfold maxLen; omega
set_option maxHeartbeats 4000000 in
set_option maxRecDepth 100000 in
theorem Reread_any (raw vals : Value) (nr nv : Nat) (cat cv : Int) (junk : List UInt8) (w : World) (hraw : IntsAt w raw nr) (hvals : StrsAt w vals nv) (hnr : nr ≤ 140737488355328) (hnv : nv ≤ 140737488355328) (hca : -9223372036854775808 ≤ cat ∧ cat ≤ 9223372036854775807) (hcv : -9223372036854775808 ≤ cv ∧ cv ≤ 9223372036854775807) (hj : junk.length ≤ 140737488351232) :
    Calls Try.prog 7 #[raw, vals, .int .i64 cat, .int .i64 cv, .string (textOf junk)] w fun e w' => e = .returned (.bool true) ∧ Below w.heap.size w w' := by
  obtain ⟨i0, hi, hz0, hz1, hz2⟩ := info_parts Try.info32
  obtain ⟨j0, hji, hy0, hy1, hy2⟩ := info_parts Try.info3
  obtain ⟨ra, rcap, hr, hrat⟩ := hraw
  subst hr
  have HRAT := hide hrat
  have HVALS := hide hvals
  obtain ⟨va, vcap, hv, _⟩ := hvals
  subst hv
  clear hrat
  have hRS0 := RS.start w
  go_enter Try.func7, Try.ntmps7
  go_wp2_with fail
  go_loopw [11, 12, 13, 14, 15, 16, 17] (fun t ev wv i _ _ _ wr => ∃ rs : List (RecL × Value), rs.length ≤ 8 ∧ i = .int .i64 (rs.length : Nat) ∧ RS w wr t ev wv rs) (fun _ _ _ i _ _ _ _ => 8 - (intOf i).toNat)
  case atStart => exact ⟨[], by simp, rfl, hRS0⟩
  case round =>
    obtain ⟨rs, hrl, rfl, hS⟩ := hrel
    clear hRS0
    obtain ⟨ea, ec, he⟩ := own_form hS.ends
    subst he
    obtain ⟨wa, wcp, hwv⟩ := own_form hS.want.row
    subst hwv
    have ht := hS.ht
    subst ht
    by_cases hc : rs.length < nr ∧ rs.length < 8
    · obtain ⟨hc1, hc2⟩ := hc
      obtain ⟨b, off, c, hra, hcell, hcr⟩ := HRAT.out rs.length hc1
      subst hra
      have hcw : wr.cell? ⟨b, off + rs.length, none⟩ = some (.int .i64 c) := (hS.bel.cell (World.block_lt_of_cell? w _ hcell)).trans hcell
      have hst : StrsAt wr (.slice va nv vcap) nv := HVALS.out.below hS.bel
      have HS := hide hS
      have hflen := framesL_len (rs.map (·.1)) (fun r hr => by obtain ⟨p, hp, rfl⟩ := List.mem_map.1 hr; exact hS.ok p hp)
      rw [List.length_map] at hflen
      have hfl : (framesL (rs.map (·.1))).length ≤ 2000 := by omega
      clear hcell hS hflen
      go_wp2_with fail
      refine (made_any c rs.length nv _ wr hcr (by omega) hnv hst).mono ?_
      rintro e w1 ⟨kk, tt, gg, v, ws, rfl, hrec, hws, hnew, hb1⟩
      obtain ⟨vva, vvc, hvf⟩ := hws.form
      subst hvf
      obtain ⟨hsa, hw6⟩ := rec_sized hrec
      have hE := pEncode_any kk tt gg (.slice vva ws.length vvc) ws (w1.alloc (.cells #[.int .i64 kk, .int .i64 tt, .int .i64 gg, .slice vva ws.length vvc] 32)) (hws.at.below (box_below _ _)) hsa (by unfold maxLen; omega)
      have s1 : encS kk tt gg ws = textOf (frameL kk tt gg ws) := by unfold encS; rw [hrec]; rfl
      have s2 : encE kk tt gg ws = 0 := by unfold encE; rw [hrec]; rfl
      rw [s1, s2] at hE
      unfold recV at hE
      clear s1 s2
      have hRB1 := RB_new w1 kk tt gg (.slice vva ws.length vvc)
      have hfr := frame_length (r := ⟨kk, tt, gg, ws⟩) hrec
      simp only at hfr
      have hfz : (textOf (frameL kk tt gg ws)).size = (frameL kk tt gg ws).length := textOf_size _
      have HFZ := hide hfz
      have hf7 : ¬ (textOf (frameL kk tt gg ws)).size < 7 := by omega
      have hf8 : (textOf (frameL kk tt gg ws)).size ≤ 172 := by omega
      have HAP : Hid (textOf (framesL (rs.map (·.1))) ++ textOf (frameL kk tt gg ws) = textOf (framesL (rs.map (·.1) ++ [⟨kk, tt, gg, ws⟩]))) := by
        show _ = _
        rw [textOf_append, framesL_snoc]
      have hts : (textOf (framesL (rs.map (·.1)))).size ≤ 2000 := by rw [textOf_size]; exact hfl
      have HLN : Hid ((textOf (framesL (rs.map (·.1) ++ [⟨kk, tt, gg, ws⟩]))).size = (framesL (rs.map (·.1) ++ [⟨kk, tt, gg, ws⟩])).length) := textOf_size _
      obtain ⟨l1, l2, l3, l4⟩ := bnds hrl
      clear hfz hfr
      go_wp2_with fail
      refine hE.mono ?_
      rintro e w2 ⟨rfl, hb2⟩
      have hRB2 := hRB1.kept (hb2.block _ hRB1.lt)
      obtain ⟨x0, x1, x2, x3⟩ := hRB2.cells
      have hb12 : Below w1.heap.size w1 w2 := box_then hb2
      have hbw2 : Below wr.heap.size wr w2 := hb1.trans (hb12.mono hb1.size)
      have hws2 : Ws w2 (.slice vva ws.length vvc) ws := hws.kept fun x hxx => hb12.block x (World.ownsRow.lt hws x hxx).2
      have hrow2 : w2.ownsRow 0 32 4 (.slice wa rs.length wcp) rs.length (recCells rs) := own_kept HS.out.want.row fun g hg => hbw2.block g (World.ownsRow.lt HS.out.want.row g hg).2
      clear hE hRB1
      go_upto_region 13 with (at_builtin; go_must (refine wpList_append_src _ rfl _ _ 46 46 rfl 32 i0 _ 4 48 Try.underlying46 hi hz0 hz1 hz2 rfl (by decide) _ _ _ rfl (World.ownsRow.alloc hrow2 _) _ 1 _ rfl (src_alloc w2 4 _ _ _ Try.underlying46 1 _ #[.int .i64 kk, .int .i64 tt, .int .i64 gg, .slice vva ws.length vvc] rfl rfl) (fun _ => by decide) l1 l2 ?_; intro g3 w3 hown3 hgr3 hnw3 hnn3; obtain ⟨ga3, gc3, hg3⟩ := own_form hown3; subst hg3))
      rw [HAP.out]
      obtain ⟨T, hT⟩ : ∃ T, T = textOf (framesL (rs.map (·.1) ++ ([⟨kk, tt, gg, ws⟩] : List RecL))) := ⟨_, rfl⟩
      rw [← hT]
      have HT := hide hT
      have hTz : T.size ≤ 2172 := by
        rw [hT, ← HAP.out]
        have := hts; have := hf8
        simp only [ByteArray.size_append]
        omega
      clear hT
      have hends3 : w3.ownsRow 0 3 1 (.slice ea (rs.length + 1) ec) (rs.length + 1) (endsOf (rs.map (·.1))) := HS.out.ends2 hbw2 hgr3
      go_wp2_with (at_builtin; go_must (refine wpList_append_src _ rfl _ _ 44 44 rfl 3 j0 _ 1 8 Try.underlying44 hji hy0 hy1 hy2 rfl (by decide) _ _ _ rfl (World.ownsRow.alloc hends3 _) _ 1 _ rfl (src_alloc w3 1 _ _ _ Try.underlying44 1 _ #[.int .i64 (T.size : Nat)] rfl rfl) (fun _ => by decide) l3 l4 ?_; intro g4 w4 hown4 hgr4 hnw4 hnn4; obtain ⟨ga4, gc4, hg4⟩ := own_form hown4; subst hg4))
      go_roundw
      case rel =>
        have hT := HT.out
        subst hT
        have hs := HS.out.step (r := ⟨kk, tt, gg, ws⟩) hbw2 hrec hws2 hnew hown3 hgr3 hnw3 hown4 hgr4 hnw4
        exact ⟨rs ++ [(⟨kk, tt, gg, ws⟩, .slice vva ws.length vvc)], by rw [List.length_append, List.length_singleton]; exact hc2, by rw [List.length_append, List.length_singleton]; go_num, hs⟩
      case measure => simp [intOf]; omega
    · have hx : (¬ rs.length < nr) ∨ (rs.length < nr ∧ ¬ rs.length < 8) := by omega
      have hokr : ∀ r ∈ rs.map (·.1), r.ok := fun r hr => by obtain ⟨p, hp, rfl⟩ := List.mem_map.1 hr; exact hS.ok p hp
      have hflen := framesL_len (rs.map (·.1)) hokr
      rw [List.length_map] at hflen
      have HS := hide hS
      have HOKR := hide hokr
      have HFL := hide hflen
      obtain ⟨rows, hrows⟩ : ∃ rows, rows = rs.map (·.1) := ⟨_, rfl⟩
      rw [← hrows] at HOKR HFL hflen ⊢
      have HROWS := hide hrows
      have hrwl : rows.length = rs.length := by rw [hrows, List.length_map]
      have HRWL := hide hrwl
      have hend := hS.ends
      rw [← hrows] at hend
      have HEND := hide hend
      have HWANT := hide hS.want
      have HBEL := hide hS.bel
      have hfl : (framesL rows).length ≤ 1376 := by omega
      obtain ⟨T, hT⟩ : ∃ T, T = textOf (framesL rows) := ⟨_, rfl⟩
      rw [← hT]
      have hTz : T.size = (framesL rows).length := by rw [hT, textOf_size]
      have hTb : T.size ≤ 1376 := by omega
      obtain ⟨J, hJ⟩ : ∃ J, J = textOf junk := ⟨_, rfl⟩
      rw [← hJ]
      have hJz : J.size ≤ 140737488351232 := by rw [hJ, textOf_size]; exact hj
      have HCAT : Hid (T ++ ⟨#[45]⟩ ++ J = textOf (framesL rows ++ (45 :: junk))) := by
        show _ = _
        rw [hT, hJ, show (⟨#[45]⟩ : ByteArray) = textOf [45] from rfl, textOf_append, textOf_append, List.append_assoc]; rfl
      have HT := hide hT
      have HTZ := hide hTz
      clear hT hTz hJ hS hokr hflen hrows hrwl hend hc
      rcases hx with h1 | ⟨h1, h2⟩
      all_goals
        go_wp2_with fail
        rw [HCAT.out, HTZ.out]
        refine (reads_any _ (45 :: junk) rows _ rs wr rfl HOKR.out (fB_dash junk) (by rw [List.length_append, List.length_cons]; omega) HWANT.out.want HROWS.out.symm (by rw [HRWL.out]; omega)).mono ?_
        rintro e w2 ⟨rfl, hb2⟩
        have hb2' := hb2
        have hB2 : Below w.heap.size w w2 := HBEL.out.trans (hb2.mono HBEL.out.size)
        by_cases hz : T.size = 0
        · have hzi : ((T.size : Int) == 0) = true := by rw [hz]; rfl
          have hE := pEncode_any 6 0 0 (.slice none 0 0) [] w2 (.inl ⟨rfl, rfl⟩) (fun i hi => absurd hi (by simp)) (Nat.zero_le _)
          have s1 : encS 6 0 0 [] = textOf F6 := by unfold encS; rw [rec_six]; rfl
          have s2 : encE 6 0 0 [] = 0 := by unfold encE; rw [rec_six]; rfl
          rw [s1, s2] at hE
          unfold recV at hE
          clear s1 s2
          go_wp2_with fail
          refine hE.mono ?_
          rintro e w3 ⟨rfl, hb3⟩
          clear hE
          obtain ⟨p1, p2, p3, p4⟩ := F6_scan
          have hP := pScan_any F6 w3 (by rw [F6_length]; decide) (fun n hn => by have := taken_le n F6 hn; rw [F6_length] at this; omega)
          have h67 : (textOf F6).size = 7 := by rw [textOf_size, F6_length]
          have P1 := hide p1
          have P2 := hide p2
          have P3 := hide p3
          clear p1 p2 p3 p4
          generalize textOf F6 = S6 at *
          go_wp2_with fail
          refine hP.mono ?_
          rintro e w4 ⟨n4, v4, rs4, k1, k2, rfl, k3, k4, k5⟩
          have hn4 : n4 = 1 := okN_unique k1 k2 P1.out P3.out
          subst hn4
          rw [P2.out]
          have hrs4 : rs4.length = 1 := by have := congrArg List.length k3; rwa [List.length_map, recs_length] at this
          obtain ⟨a4, c4, hv4⟩ := own_form k4.row
          subst hv4
          rw [hrs4]
          clear k1 k2 k3 k4 hP hrs4
          go_wp2_with fail
          go_ret
          refine ⟨rfl, ?_⟩
          have h3 := hB2.trans (hb3.mono hB2.size)
          exact h3.trans (k5.mono h3.size)
        · have hzi : ((T.size : Int) == 0) = false := by rw [beq_eq_false_iff_ne]; omega
          obtain ⟨cap, W1, hrun, hcap, hsz, hbt, hcell, hfrz⟩ := toBytes (P := Try.prog) w2 9 28 5 T Try.underlying9 Try.underlying28 Try.underlying5
          have hTpos : 0 < T.size := by omega
          have hTpi : (0 : Int) < (T.size : Int) := by omega
          have k1 := pickOf_nonneg cat T.size hTpi
          have k2 := pickOf_lt cat T.size hTpi
          obtain ⟨kN, hkN, HKN⟩ : ∃ kN : Nat, kN < T.size ∧ Hid (pickOf cat T.size = (kN : Int)) := ⟨(pickOf cat T.size).toNat, by omega, by show _ = _; omega⟩
          have hB1 : Below w.heap.size w W1 := hB2.trans (hbt.mono hB2.size)
          have hBr : Below wr.heap.size wr W1 := hb2.trans (hbt.mono hb2.size)
          have HCELL := hide hcell
          have HFRZ := hide hfrz
          have HSZ1 := hide hsz
          have hw2W : w2.heap.size < W1.heap.size := by omega
          obtain ⟨eb, heb, hebw, hebn⟩ := HS.out.evb
          have hea : ea = some ⟨eb, 0, none⟩ := by
            rcases HEND.out.2 with ⟨h0, h00⟩ | ⟨g, c0, cur, h0, _⟩
            · omega
            · injection h0 with h0
              subst h0
              injection heb with heb
              subst heb
              rfl
          subst hea
          have heblt : eb < wr.heap.size := (World.ownsRow.lt HEND.out eb rfl).2
          have HEC : Hid (∀ i, i ≤ rows.length → W1.cell? ⟨eb, i, none⟩ = some (.int .i64 (endAt rows i : Nat))) := by
            intro i hi
            have := World.ownsRow.cells HEND.out (g := eb) rfl i _ (endsOf_get rows i hi)
            simp only [Addr.add_lit, Nat.zero_add] at this
            rw [hBr.cell heblt]; exact this
          have hebW : eb < W1.heap.size := Nat.lt_of_lt_of_le heblt hBr.size
          clear hcell hfrz hsz k1 k2 hebn
          go_wp2_with fail
          refine (pick_any cat T.size W1 hca hTpi (by omega)).mono ?_
          rintro e w' ⟨rfl, rfl⟩
          rw [HKN.out]
          go_wp2_with fail
          go_loopw [25, 26] (fun n i wq => ∃ (nn ii : Nat), ii ≤ rs.length + 1 ∧ i = .int .i64 (ii : Int) ∧ n = .int .i64 (nn : Int) ∧ wq = w' ∧ nn ≤ rs.length ∧ endAt rows nn ≤ kN ∧ (∀ j, j < ii → endAt rows j ≤ kN → j ≤ nn)) (fun _ i _ => rs.length + 1 - (intOf i).toNat)
          case atStart => exact ⟨0, 0, by omega, rfl, rfl, rfl, by omega, Nat.zero_le _, fun j hj => absurd hj (by omega)⟩
          case round =>
            obtain ⟨nn, ii, hii, rfl, rfl, rfl, hnn, hen, hall⟩ := hrel
            by_cases hil : ii < rs.length + 1
            · have hci := HEC.out ii (by rw [HRWL.out]; omega)
              have HALL := hide hall
              have HEN := hide hen
              have hb1376 : endAt rows ii ≤ 1376 := by
                unfold endAt
                have := framesL_len (rows.take ii) (fun r hr => HOKR.out r (List.mem_of_mem_take hr))
                have := List.length_take (i := ii) (l := rows)
                have := HRWL.out
                omega
              clear hall hen
              obtain ⟨E, hE⟩ : ∃ E, E = endAt rows ii := ⟨_, rfl⟩
              rw [← hE] at hci hb1376
              have HE := hide hE
              clear hE
              by_cases hle : E ≤ kN
              · have HLE := hide hle
                go_wp2_with fail
                go_roundw
                case rel => exact ⟨ii, ii + 1, by omega, by go_num, rfl, trivial, by omega, by rw [← HE.out]; exact HLE.out, fun j hj _ => by omega⟩
                case measure => simp [intOf]; omega
              · have HLE := hide hle
                go_wp2_with fail
                go_roundw
                case rel =>
                  refine ⟨nn, ii + 1, by omega, by go_num, rfl, trivial, hnn, HEN.out, fun j hj hjk => ?_⟩
                  rcases Nat.lt_or_eq_of_le (Nat.le_of_lt_succ hj) with q | q
                  · exact HALL.out j q hjk
                  · subst q
                    exact absurd (by rw [HE.out]; exact hjk) HLE.out
                case measure => simp [intOf]; omega
            · have hea := endAt_all rows
              have hnl : nn < rs.length := by
                rcases Nat.lt_or_eq_of_le hnn with q | q
                · exact q
                · exfalso
                  rw [q, ← HRWL.out, hea, ← HTZ.out] at hen
                  omega
              have hnx : kN < endAt rows (nn + 1) := by
                rcases Nat.lt_or_ge kN (endAt rows (nn + 1)) with q | q
                · exact q
                · have := hall (nn + 1) (by omega) q
                  omega
              have hci := HEC.out nn (by rw [HRWL.out]; omega)
              obtain ⟨E, hE⟩ : ∃ E, E = endAt rows nn := ⟨_, rfl⟩
              rw [← hE] at hci hen
              have HE := hide hE
              have HNX := hide hnx
              clear hE hnx hea hall
              have hT' := HT.out
              have hbytes : BytesAt wr w2.heap.size (framesL rows) := by
                intro j hj
                have := HCELL.out j (by rw [HTZ.out]; exact hj)
                rw [this]
                congr 2
                subst hT'
                exact congrArg (fun x : UInt8 => (x.toNat : Int)) ((text_get (framesL rows) j hj).trans (by simp [hj]))
              have hkF : kN < (framesL rows).length := by rw [← HTZ.out]; exact hkN
              have hkx : ∀ kq : Nat, (kq = kN ∧ kN ≠ E + 2 ∨ kq = kN + 1 ∧ kN = E + 2) → E ≤ kq ∧ kq < endAt rows (nn + 1) ∧ kq ≠ E + 2 ∧ kq < (framesL rows).length := by
                intro kq hq
                have hnr' : nn < rows.length := by rw [HRWL.out]; exact hnl
                have h7 := endAt_succ rows nn hnr'
                rw [← HE.out] at h7
                have h8 := (frame_length (HOKR.out rows[nn] (List.getElem_mem hnr'))).1
                have h9 : endAt rows (nn + 1) ≤ (framesL rows).length := by
                  rw [← endAt_all rows]
                  unfold endAt
                  have : rows.length = (nn + 1) + (rows.length - (nn + 1)) := by have := HRWL.out; omega
                  rw [List.take_length]
                  conv => rhs; rw [← List.take_append_drop (nn + 1) rows, framesL_append, List.length_append]
                  omega
                have h10 := HNX.out
                omega
              have HKX := hide hkx
              have hb2 : E ≤ kN ∧ kN ≤ 1376 := by omega
              have HBY := hide hbytes
              clear hT' hbytes hkx hkF
              by_cases he2 : kN = E + 2
              case' pos =>
                have hq : ((kN : Int) == (E : Int) + 2) = true := by rw [beq_iff_eq]; omega
                obtain ⟨kq, hkq, HQ⟩ : ∃ kq : Nat, (kq = kN + 1 ∧ kN = E + 2) ∧ Hid ((kN : Int) + 1 = (kq : Int)) := ⟨kN + 1, ⟨rfl, he2⟩, rfl⟩
                obtain ⟨K1, K2, K3, K4⟩ := HKX.out kq (.inr hkq)
                clear hkq he2
                go_upto_region 29 with fail
                rw [HQ.out]
              case' neg =>
                have hq : ((kN : Int) == (E : Int) + 2) = false := by rw [beq_eq_false_iff_ne]; omega
                obtain ⟨kq, hkq, HQ⟩ : ∃ kq : Nat, (kq = kN ∧ kN ≠ E + 2) ∧ Hid ((kN : Int) = (kq : Int)) := ⟨kN, ⟨rfl, he2⟩, rfl⟩
                obtain ⟨K1, K2, K3, K4⟩ := HKX.out kq (.inl hkq)
                clear hkq he2
                go_upto_region 29 with fail
                rw [HQ.out]
              all_goals
                have a0 := HBY.out kq K4
                have z0 := HFRZ.out kq (by rw [HTZ.out]; exact K4)
                have hkT : kq < T.size := by rw [HTZ.out]; exact K4
                have v1 := pickOf_nonneg cv 255 (by omega)
                have v2 := pickOf_lt cv 255 (by omega)
                obtain ⟨dN, hd1, hd2, HD⟩ : ∃ dN : Nat, 1 ≤ dN ∧ dN < 256 ∧ Hid (1 + pickOf cv 255 = (dN : Int)) := ⟨(1 + pickOf cv 255).toNat, by omega, by omega, by show _ = _; omega⟩
                obtain ⟨xo, hxo⟩ : ∃ xo : UInt8, xo = (framesL rows)[kq] := ⟨_, rfl⟩
                rw [← hxo] at a0
                have HXO := hide hxo
                have hxl := xo.toNat_lt
                have hx9 : bits .xor .u8 (xo.toNat : Int) (dN : Int) = ((xo.toNat ^^^ dN : Nat) : Int) := u8_xor_nat _ _ (by simpa using hxl) hd2
                have hw9 : IntKind.u8.wrap (dN : Int) = (dN : Int) := by rw [IntKind.wrap_u8]; omega
                have hwa : IntKind.i64.wrap (1 + pickOf cv 255) = (dN : Int) := by rw [HD.out, IntKind.wrap_i64]; omega
                obtain ⟨hxne, hxt⟩ := xor_byte_ne xo dN hd1 hd2
                have HXN := hide hxne
                have HXT := hide hxt
                clear hxo hxne hxt hxl
                go_cut [142] (fun _ wc => Turned wr w2.heap.size ((framesL rows).set kq (UInt8.ofNat (xo.toNat ^^^ dN))) wc)
                case first =>
                  go_region_with ((go_at_call 10; go_must (refine (pick_any cv 255 _ hcv (by omega) (by omega)).mono ?_; rintro e wp ⟨rfl, rfl⟩)))
                  all_goals (go_wp2_with fail; go_meet)
                  all_goals exact turned_drew (turned_set HBY.out (Only.refl _ _) rfl K4 HXT.out.symm)
                case rest =>
                  obtain ⟨hby, hon⟩ := hcut
                  obtain ⟨rest, hr1, hr2⟩ := frames_changed rows HOKR.out nn (by rw [HRWL.out]; exact hnl) kq (by rw [← HE.out]; exact K1) K2 (by rw [← HE.out]; exact K3) _ K4 (by rw [← HXO.out]; exact HXN.out)
                  have hlw : (framesL rows).length = T.size := HTZ.out.symm
                  have hl' : ((framesL rows).set kq (UInt8.ofNat (xo.toNat ^^^ dN))).length = T.size := by rw [List.length_set]; exact hlw
                  generalize (framesL rows).set kq (UInt8.ofNat (xo.toNat ^^^ dN)) = L at *
                  have hconv : ∀ x : BelowW wc, (convert 28 9 (.slice (some ⟨w2.heap.size, 0, none⟩) T.size cap)).run Try.prog x.w = .ok (.string (textOf L)) x.w := by
                    intro x
                    refine toText x.w 28 9 5 w2.heap.size cap T.size L hl'.symm Try.underlying28 Try.underlying5 Try.underlying9 ?_
                    intro j hjj
                    exact BelowW.cell (hby j hjj) x
                  have hwantc : Recs w.heap.size wc (.slice wa rs.length wcp) rs := HWANT.out.kept fun x hx => by
                    have hxl := HWANT.out.lt x hx
                    rw [hon.block x (Nat.lt_of_lt_of_le hxl hBr.size) (by have := hb2'.size; omega), hBr.block x hxl]
                  obtain ⟨wb, hwb, hcapw, hcapm⟩ := want_slice HWANT.out (by omega)
                  subst hwb
                  have hcutw : WantAt wc (.slice (some ⟨wb, 0, none⟩) nn wcp) (rs.take nn) := hwantc.want.take nn (by omega)
                  have hrd : ∀ x : BelowW wc, Calls Try.prog 17 #[.string (textOf L), .slice (some ⟨wb, 0, none⟩) nn wcp, .int .i64 (E : Nat)] x.w fun e w' => e = .returned (.bool true) ∧ Below x.w.heap.size x.w w' := by
                    intro x
                    have h := reads_any L rest (rows.take nn) (.slice (some ⟨wb, 0, none⟩) nn wcp) (rs.take nn) x.w hr1 (fun r hr => HOKR.out r (List.mem_of_mem_take hr)) hr2 (by omega) (hcutw.below x.h) (by rw [List.map_take, ← HROWS.out]) (by rw [List.length_take]; omega)
                    have e : (framesL (rows.take nn)).length = E := HE.out.symm
                    rwa [e] at h
                  have hec : wc.cell? ⟨eb, nn, none⟩ = some (.int .i64 (E : Nat)) := by
                    rw [← hci]
                    exact World.cell?_of_block (hon.block eb hebW (by have := hb2'.size; show eb ≠ w2.heap.size; omega))
                  have W3 := BelowW.cell hec
                  have hBc : Below w.heap.size w wc := hB1.trans (hon.below hB1.size (fun x hx => by have := hB2.size; show w.heap.size ≤ x; omega))
                  have HBc := hide hBc
                  haveI := BelowW.ne wc
                  have hnw : nn ≤ wcp := by omega
                  have hnr2 : nn ≤ rs.length := by omega
                  have hnl1 : nn < rs.length + 1 := by omega
                  unfold maxLen at hcapm
                  have HL := hide hl'
                  clear hby hon hwantc hcutw hr1 hr2 hlw hl' hBc
                  go_upto_region 30 with fail
                  refine wp_region_calm (by kernel_rfl) (by kernel_rfl) ?_
                  repeat (go_big_quiet_step ((go_at_call 17; exact calm_of _ (hrd _))))
                  refine wpQuiet_nil ?_
                  rintro _ ⟨xq, rfl⟩
                  go_wp2_with fail
                  go_ret
                  exact ⟨rfl, HBc.out.trans (xq.h.mono HBc.out.size)⟩
end Go.Proofs.Ytneepapppbchnaa
