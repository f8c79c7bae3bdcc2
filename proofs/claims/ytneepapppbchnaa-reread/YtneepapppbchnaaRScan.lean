/- The walk of the document's Scan. -/
import Derived.Test.YtneepapppbchnaaRG1
namespace Go.Proofs.Ytneepapppbchnaa
open Go.RowKit
set_option linter.unusedVariables false

/-- a frame's payload, told by the whole -/
theorem pay_of_frame {q : List UInt8} {k t g : Nat} {ws : List WrL} (hr : recB k t g ws = true) (h : frameL k t g ws = q.take (7 + fN q)) : fP q = payL k t g ws ∧ fK q = k ∧ q = frameL k t g ws ++ q.drop (7 + fN q) := by
  have e : q = frameL k t g ws ++ q.drop (7 + fN q) := by rw [h, List.take_append_drop]
  obtain ⟨kn, tn, gn, e1, e2, e3, h1, h6, ht, hg, hw, hn⟩ := rec_nat hr
  obtain rfl : k = kn := by omega
  obtain ⟨p1, p2, p3, p4⟩ := frame_parts k t g ws (q.drop (7 + fN q)) (by omega) (by have := payL_length k t g ws hw; omega)
  rw [← e] at p1 p2 p3
  exact ⟨p3, p1, e⟩
/-- the document accepts what the program accepts -/
theorem ref_accept {q : List UInt8} {k t g : Nat} {ws : List WrL} (hk : k = fK q) (hinv : ∀ t' g' ws', recB k t' g' ws' = true → fP q = payL k (Int.toNat t') (Int.toNat g') ws' → t' = t ∧ g' = g ∧ ws' = ws) :
    (recB k t g ws = true → frameL k t g ws = q.take (7 + fN q) → fB q = true ∧ recAt q = ⟨k, t, g, ws⟩) ∧ ((recB k t g ws = true → frameL k t g ws = q.take (7 + fN q) → False) → fB q = false) := by
  constructor
  · intro hr hf
    obtain ⟨h1, h2, h3⟩ := pay_of_frame hr hf
    have := frame_read hr (q.drop (7 + fN q))
    rw [← h3] at this
    exact ⟨this.1, this.2.1⟩
  · intro hno
    cases hb : fB q with
    | false => rfl
    | true =>
      exfalso
      unfold fB at hb
      simp only [Bool.and_eq_true, decide_eq_true_eq] at hb
      obtain ⟨⟨_, hr⟩, hf⟩ := hb
      obtain ⟨h1, h2, h3⟩ := pay_of_frame hr hf
      obtain ⟨a, b, c⟩ := hinv (gT (fK q) (fP q) : Nat) (gG (fK q) (fP q) : Nat) (gW (fK q) (fP q)) (by rw [hk]; exact hr) (by rw [hk, Int.toNat_natCast, Int.toNat_natCast]; exact h1)
      have a' : gT (fK q) (fP q) = t := by omega
      have b' : gG (fK q) (fP q) = g := by omega
      rw [a', b', c, ← hk] at hr hf
      exact hno hr hf
/-- one record more, whatever was made between -/
theorem Recs.snocG {B : Nat} {w w1 wm w2 : World} {v v' nv : Value} {rs : List (RecL × Value)} {r : RecL} (h : Recs B w v rs) (hb : Below w.heap.size w w1) (hnv : Ws w1 nv r.writes) (hnew : Newer w (.slice none 0 0) nv) (hB : B ≤ w.heap.size) (hm : Below w1.heap.size w1 wm)
    (hown : w2.ownsRow 0 32 4 v' (rs.length + 1) (recCells rs ++ recVals (r, nv))) (hgr : wm.grownBy w2 v.ownBlock) (hn : Newer wm v v') : Recs B w2 v' (rs ++ [(r, nv)]) := by
  obtain ⟨hnd, hvi⟩ := recs_parts h
  have hsz : w.heap.size ≤ w1.heap.size := hb.size
  have hold : ∀ g, g < w1.heap.size → some g ≠ v.ownBlock → w2.heap[g]? = w1.heap[g]? := by
    intro g hg hne
    rw [hgr.block g (Nat.lt_of_lt_of_le hg hm.size) hne, hm.block g hg]
  have hvlt : ∀ x, v.ownBlock = some x → B ≤ x ∧ x < w.heap.size := fun x hx => ⟨h.fresh x (mem_blocks.2 (.inl hx)), (World.ownsRow.lt h.row x hx).2⟩
  have hnlt : ∀ x, nv.ownBlock = some x → w.heap.size ≤ x ∧ x < w1.heap.size := by
    intro x hx
    refine ⟨?_, (World.ownsRow.lt hnv x hx).2⟩
    rcases hnew with e | ⟨g, e, hg⟩
    · rw [e] at hx; cases hx
    · rw [e] at hx; injection hx with hx; omega
  have hilt : ∀ x ∈ inner rs, B ≤ x ∧ x < w.heap.size := by
    intro x hx
    have hm : x ∈ blocksOf v rs := by rw [blocks_eq]; exact List.mem_append.2 (.inr hx)
    exact ⟨h.fresh x hm, h.lt x hm⟩
  have hv' : ∀ x, v'.ownBlock = some x → v.ownBlock = some x ∨ w1.heap.size ≤ x := by
    intro x hx
    rcases hn with e | ⟨g, e, hg⟩
    · rw [e] at hx; exact .inl hx
    · rw [e] at hx; injection hx with hx; have := hm.size; exact .inr (by omega)
  refine ⟨?_, ?_, ?_, ?_⟩
  · rw [List.length_append]
    unfold recCells at *
    rw [List.flatMap_append]
    simpa using hown
  · intro p hp
    rcases List.mem_append.1 hp with hp | hp
    · refine (h.each p hp).kept fun g hg => ?_
      have hlt := (World.ownsRow.lt (h.each p hp) g hg).2
      have hne : some g ≠ v.ownBlock := fun e => hvi g e.symm (mem_inner.2 ⟨p, hp, hg⟩)
      rw [hold g (by omega) hne, hb.block g hlt]
    · simp only [List.mem_singleton] at hp
      subst hp
      refine hnv.kept fun g hg => hold g (hnlt g hg).2 fun e => ?_
      have h1 := (hvlt g e.symm).2
      have h2 := (hnlt g hg).1
      omega
  · rw [blocks_eq, inner_snoc, List.nodup_append, List.nodup_append]
    refine ⟨by cases v'.ownBlock <;> simp, ⟨hnd, by cases nv.ownBlock <;> simp, ?_⟩, ?_⟩
    · intro x hx y hy e
      subst e
      simp only [Option.mem_toList] at hy
      have h1 := (hnlt x hy).1
      have h2 := (hilt x hx).2
      omega
    · intro x hx y hy e
      subst e
      simp only [Option.mem_toList] at hx
      rcases List.mem_append.1 hy with hy | hy
      · rcases hv' x hx with h1 | h1
        · exact hvi x h1 hy
        · have := (hilt x hy).2; omega
      · simp only [Option.mem_toList] at hy
        rcases hv' x hx with h1 | h1
        · have := (hvlt x h1).2; have := (hnlt x hy).1; omega
        · have := (hnlt x hy).2; omega
  · intro x hx
    rw [blocks_eq, inner_snoc] at hx
    simp only [List.mem_append, Option.mem_toList] at hx
    rcases hx with hx | hx | hx
    · rcases hv' x hx with h1 | h1
      · exact (hvlt x h1).1
      · omega
    · exact (hilt x hx).1
    · have := (hnlt x hx).1; omega
/-- what was guessed lies in a box of its own -/
def RBoxed (WA : World) (k : Nat) (p : List UInt8) (x : Value) (wc : World) : Prop :=
  ∃ (t g : Nat) (ws : List WrL), Boxed WA k t g ws x wc ∧ SizedAll ws ∧ ws.length ≤ 255 ∧ ∀ t' g' ws', recB k t' g' ws' = true → p = payL k (Int.toNat t') (Int.toNat g') ws' → t' = t ∧ g' = g ∧ ws' = ws
set_option maxHeartbeats 1000000 in
set_option maxRecDepth 100000 in
theorem rScan_any (l : List UInt8) (w : World) (hl : l.length ≤ 140737488355328) (hcnt : ∀ n, okN n l → n ≤ 2000000000000) :
    Calls Try.prog 27 #[.string (textOf l)] w fun e w' => ScanPost l w e w' := by
  obtain ⟨i0, hi, hz0, hz1, hz2⟩ := info_parts Try.info32
  have HC : Hid (∀ n, okN n l → n ≤ 2000000000000) := hcnt
  have hts : (textOf l).size = l.length := textOf_size l
  have hsz : (textOf l).size ≤ 140737488355328 := by omega
  have HSZ : Hid ((textOf l).size = l.length) := hts
  clear hcnt hts
  go_enter Try.func27, Try.ntmps27
  go_wp2_with fail
  go_loopw [4, 5, 6, 7, 8, 9] (fun v t _ _ _ _ wr => ∃ n rs, okN n l ∧ t = .int .i64 (taken n l : Nat) ∧ rs.map (·.1) = recs n l ∧ Recs w.heap.size wr v rs ∧ Below w.heap.size w wr) (fun _ t _ _ _ _ _ => l.length - (intOf t).toNat)
  case atStart => exact ⟨0, [], fun i hi => absurd hi (by omega), rfl, rfl, Recs_nil _ _, Below.refl _ _⟩
  case round =>
    obtain ⟨n, rs, hok, rfl, hrs, hR, hbel⟩ := hrel
    have htk := taken_le n l hok
    have HOK : Hid (okN n l) := hok
    have HRS : Hid (rs.map (·.1) = recs n l) := hrs
    have hlen : rs.length = n := by have := congrArg List.length hrs; rwa [List.length_map, recs_length] at this
    have hn9 := HC.out n hok
    have hl1 : rs.length + 1 ≤ maxLen := by unfold maxLen; omega
    have hl2 : (rs.length + 1) * 48 ≤ 140737488355328 := by omega
    have HT : Hid (taken (n + 1) l = taken n l + (7 + fN (l.drop (taken n l)))) := rfl
    have HRC : Hid (recs (n + 1) l = recs n l ++ [recAt (l.drop (taken n l))]) := recs_succ n l
    have htz : taken n l ≤ (textOf l).size := by rw [HSZ.out]; omega
    clear hok hrs hlen
    have HTK : Hid (∀ m, taken n l = m → fB (l.drop m) = false → ∀ v wx, Recs w.heap.size wx v rs → Below w.heap.size w wx → ScanPost l w (.returned (.tuple #[v, .int .i64 m])) wx) := by
      rintro m rfl hf v wx hv hbx
      exact ⟨n, v, rs, HOK.out, hf, rfl, HRS.out, hv, hbx⟩
    generalize htt : taken n l = tk at *
    have HTE : Hid (taken n l = tk) := htt
    clear htt
    obtain ⟨q, hq⟩ : ∃ q, q = l.drop tk := ⟨_, rfl⟩
    rw [← hq] at HT HRC
    have hqb : ∀ i, q.getD i 0 = l.getD (tk + i) 0 := fun i => by rw [hq, getD_drop]
    have hql : q.length = l.length - tk := by rw [hq, List.length_drop]
    have HQ : Hid (q = l.drop tk) := hq
    obtain ⟨va, vc, hvv⟩ := own_form hR.row
    subst hvv
    by_cases h7 : tk + 7 ≤ l.length
    · obtain ⟨s, z1, z2, hsp, hsl, q1, q2, c1, c2⟩ : ∃ (s : ByteArray) (z1 : tk + 1 < s.size) (z2 : tk + 2 < s.size), s = textOf l ∧ s.size = l.length ∧ s[tk + 1].toNat = fK q ∧ s[tk + 2].toNat = fN q ∧ fK q < 256 ∧ fN q < 256 := by
        refine ⟨textOf l, by rw [HSZ.out]; omega, by rw [HSZ.out]; omega, rfl, HSZ.out, ?_, ?_, (q.getD 1 0).toNat_lt, (q.getD 2 0).toNat_lt⟩
        · unfold fK; rw [hqb]; exact congrArg UInt8.toNat (text_get l (tk + 1) (by omega))
        · unfold fN; rw [hqb]; exact congrArg UInt8.toNat (text_get l (tk + 2) (by omega))
      rw [← hsp]
      obtain ⟨nf, hnf⟩ : ∃ nf, nf = fN q := ⟨_, rfl⟩
      have HNF : Hid (nf = fN q) := hnf
      by_cases hfit : tk + (7 + nf) ≤ l.length
      · have HP : Hid (s.extract (tk + 3) (tk + 3 + nf) = textOf (fP q)) := by
          show _ = _
          rw [hsp, textOf_ext]; unfold fP; rw [hq, List.drop_drop, ← hq, ← hnf, show tk + 3 + nf - (tk + 3) = nf by omega]
        have HX : Hid (s.extract tk (tk + (7 + nf)) = textOf (q.take (7 + fN q))) := by
          show _ = _
          rw [hsp, textOf_ext, ← hq, ← hnf, show tk + (7 + nf) - tk = 7 + nf by omega]
        have hfp : (fP q).length ≤ 255 := by unfold fP; rw [List.length_take]; omega
        have hfit' : tk + (7 + nf) ≤ s.size := by omega
        have hszz : s.size ≤ 140737488355328 := by omega
        rw [← hnf] at q2 c2 HT
        have HSL : Hid (s.size = l.length) := hsl
        clear hsp hsl hqb hql hq hnf h7 hfit htk htz hsz hl
        go_upto_region 7 with fail
        have hsl : ∀ wx : World, (Instr.slice 9 (.string s) (some (.int .i64 ((tk : Int) + 3))) (some (.int .i64 ((tk : Int) + (7 + (nf : Int)) - 4))) none).run Try.prog wx = .ok (.string (textOf (fP q))) wx := by
          intro wx
          rw [run_slice_string (P := Try.prog) wx 9 s .i64 .i64 ((tk : Int) + 3) ((tk : Int) + (7 + (nf : Int)) - 4) Try.underlying9 (by omega) (by omega) (by omega)]
          rw [show ((tk : Int) + 3).toNat = tk + 3 by omega, show ((tk : Int) + (7 + (nf : Int)) - 4).toNat = tk + 3 + nf by omega, HP.out]
        have hw5 : IntKind.i64.wrap ((tk : Int) + (7 + (nf : Int)) - 4) = (tk : Int) + (7 + (nf : Int)) - 4 := by rw [IntKind.wrap_i64]; omega
        have hw6 : IntKind.i64.wrap ((tk : Int) + (7 + (nf : Int))) = (tk : Int) + (7 + (nf : Int)) := by rw [IntKind.wrap_i64]; omega
        have hw7 : IntKind.i64.wrap ((tk : Int) + 3) = (tk : Int) + 3 := by rw [IntKind.wrap_i64]; omega
        have hw8 : IntKind.i64.wrap ((tk : Int) + 1) = (tk : Int) + 1 := by rw [IntKind.wrap_i64]; omega
        have hix : ∀ wx : World, (Instr.index 9 (.string s) (.int .i64 ((tk : Int) + 1))).run Try.prog wx = .ok (.int .u8 (fK q : Nat)) wx := by
          intro wx
          rw [run_index_string (P := Try.prog) wx 9 s .i64 ((tk : Int) + 1) Try.underlying9, dif_pos (by omega)]
          rw [← q1]; rfl
        have hwr : IntKind.i64.wrap ((fK q : Nat) : Int) = ((fK q : Nat) : Int) := by rw [IntKind.wrap_i64]; omega
        go_cut [7] (fun x wc => RBoxed wr (fK q) (fP q) x wc)
        case first =>
          go_region_held3 (fun _ => True) (trivial) ((go_at_call 44; go_must (refine (rguess_any (fK q) (fP q) _ hfp).mono ?_; rintro e w1 ⟨gt, gg, v, gws, rfl, hws, hnew, hb1, hsa, hgl, hginv⟩; obtain ⟨va, vc, hv⟩ := hws.form; subst hv; obtain ⟨hcx, hfx⟩ := bcell hb1)))
          all_goals (go_wp2_with fail; go_meet)
          · exact ⟨gt, gg, gws, cutA hws hnew hb1, hsa, hgl, hginv⟩
          · exact ⟨gt, gg, gws, cutB rfl hws hnew hb1, hsa, hgl, hginv⟩
          · exact ⟨gt, gg, gws, cutB rfl hws hnew hb1, hsa, hgl, hginv⟩
        case rest =>
          clear hsl hw5 hw6 hw7 hw8 hix hwr
          obtain ⟨gt, gg, gws, ⟨r, v, rfl, hRB, hr, hws, hx, hbc⟩, hsa, hgl, hginv⟩ := hcut
          obtain ⟨hacc, hrej⟩ := ref_accept rfl hginv
          have HACC : Hid _ := hacc
          have HREJ : Hid _ := hrej
          clear hacc hrej hginv
          have hE := rEncode_any (fK q) gt gg v gws wc hws.at hsa (by unfold maxLen; omega)
          unfold recV at hE
          obtain ⟨y0, y1, y2, y3⟩ := hRB.cells
          obtain ⟨wa, wcap, rfl⟩ := hws.form
          go_wp2_with fail
          refine hE.mono ?_
          rintro e w3 ⟨rfl, hb3⟩
          have hb13 : Below wr.heap.size wr w3 := hbc.trans (hb3.mono hbc.size)
          have hB3 : Below w.heap.size w w3 := hbel.trans (hb13.mono hbel.size)
          have hR3 : Recs w.heap.size w3 _ rs := hR.kept fun x hxx => hb13.block x (hR.lt x hxx)
          have hRB3 := hRB.kept (hb3.block _ hRB.lt)
          have hws3 : Ws w3 _ gws := hws.kept fun x hxx => hb3.block x (World.ownsRow.lt hws x hxx).2
          clear y0 y1 y2 y3 hE
          obtain ⟨y0, y1, y2, y3⟩ := hRB3.cells
          cases hrec : recB (fK q) gt gg gws
          · have hf : fB q = false := HREJ.out (fun a _ => by rw [hrec] at a; cases a)
            have s1 : encS (fK q) gt gg gws = ⟨#[]⟩ := by unfold encS; rw [hrec]; rfl
            have s2 : encE (fK q) gt gg gws = 1 := by unfold encE; rw [hrec]; rfl
            rw [s1, s2]
            have HF : Hid _ := HTK.out tk rfl (by rw [← HQ.out]; exact hf) _ _ hR3 hB3
            clear s1 s2 hrec hf HTK HACC HREJ
            go_wp2_with fail
            go_ret2
            exact HF.out
          · have s1 : encS (fK q) gt gg gws = textOf (frameL (fK q) gt gg gws) := by unfold encS; rw [hrec]; rfl
            have s2 : encE (fK q) gt gg gws = 0 := by unfold encE; rw [hrec]; rfl
            rw [s1, s2]
            clear s1 s2
            have hlists : ((textOf (frameL (fK q) gt gg gws)).toList == (s.extract tk (tk + (7 + nf))).toList) = (frameL (fK q) gt gg gws == q.take (7 + fN q)) := by
              rw [HX.out, ByteArray.toList_eq, ByteArray.toList_eq]; rfl
            by_cases hfr : frameL (fK q) gt gg gws = q.take (7 + fN q)
            · obtain ⟨hf, hra⟩ := HACC.out hrec hfr
              have HF : Hid (fB q = true) := hf
              have HRA : Hid (recAt q = ⟨fK q, gt, gg, gws⟩) := hra
              rw [beq_iff_eq.2 hfr] at hlists
              have hNW : Newer wr (.slice none 0 0) (Value.slice wa gws.length wcap) := by
                cases ho : (Value.slice wa gws.length wcap).ownBlock with
                | none => exact .inl ho
                | some x => exact .inr ⟨x, ho, (hx x ho).1⟩
              clear hfr hrec hf hra HACC HREJ HTK
              generalize textOf (frameL (fK q) gt gg gws) = fr at *
              have hl70 : tk + (7 + nf) ≤ s.size := hfit'
              have hrowX := World.ownsRow.alloc hR3.row (.cells #[.int .i64 (fK q : Nat), .int .i64 (gt : Nat), .int .i64 (gg : Nat), .slice wa gws.length wcap] 32)
              obtain ⟨d0, d1, d2, d3⟩ := rcell w3 (.int .i64 (fK q : Nat)) (.int .i64 (gt : Nat)) (.int .i64 (gg : Nat)) (.slice wa gws.length wcap) 32
              go_wp2_with (at_builtin; go_must (refine wpList_append_src _ rfl _ _ 46 46 rfl 32 i0 _ 4 48 Try.underlying46 hi hz0 hz1 hz2 rfl (by decide) _ _ _ rfl hrowX _ 1 _ rfl (srcOne4 _ _ _ Try.underlying46 _ _ _ _ _ _ _ _ d0 d1 d2 d3) (fun _ => by decide) hl1 hl2 ?_; intro u' w4 hown hgr hnw hnn))
              go_roundw
              case rel =>
                refine ⟨n + 1, rs ++ [(recAt q, .slice wa gws.length wcap)], okN_succ HOK.out (by rw [HTE.out, ← HQ.out]; exact HF.out), ?_, ?_, ?_, ?_⟩
                · rw [HT.out]; go_num
                · rw [List.map_append, HRS.out, HRC.out]; rfl
                · rw [HRA.out]
                  exact hR.snocG hb13 hws3 hNW hbel.size (box_below w3 _) hown hgr hnw
                · have h1 : Below w.heap.size w (w3.alloc (.cells #[.int .i64 (fK q : Nat), .int .i64 (gt : Nat), .int .i64 (gg : Nat), .slice wa gws.length wcap] 32)) := hB3.alloc hB3.size _
                  exact h1.grown hgr h1.size (fun x hx => hR.fresh x (mem_blocks.2 (.inl hx)))
              case measure => have := HSL.out; simp [intOf]; omega
            · have hf : fB q = false := HREJ.out (fun _ b => hfr b)
              rw [list_beq _ _ hfr] at hlists
              have HF : Hid _ := HTK.out tk rfl (by rw [← HQ.out]; exact hf) _ _ hR3 hB3
              clear hfr hrec hf HTK HACC HREJ
              generalize textOf (frameL (fK q) gt gg gws) = fr at *
              go_wp2_with fail
              go_ret2
              exact HF.out
      · have hf : fB q = false := fB_cut (by omega)
        have HF : Hid _ := HTK.out tk rfl (by rw [← hq]; exact hf) _ _ hR hbel
        have hfit' : s.size < tk + (7 + nf) := by omega
        have h7' : tk + 7 ≤ s.size := by omega
        have hszz : s.size ≤ 140737488355328 := by omega
        rw [← hnf] at q2 c2
        clear hsp hsl hqb hql hq hnf h7 hfit htk hf HTK
        go_wp2_with fail
        go_ret2
        exact HF.out
    · have hf : fB q = false := fB_cut (by omega)
      have HF : Hid _ := HTK.out tk rfl (by rw [← hq]; exact hf) _ _ hR hbel
      have h7' : ¬ tk + 7 ≤ (textOf l).size := by rw [HSZ.out]; exact h7
      clear hqb hql hq hf h7
      generalize textOf l = s at *
      go_wp2_with fail
      go_ret2
      exact HF.out
end Go.Proofs.Ytneepapppbchnaa
