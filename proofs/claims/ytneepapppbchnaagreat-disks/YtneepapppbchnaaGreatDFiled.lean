/- The walk of filed: one call of a disk, the program's and the document's. -/
import Derived.Test.YtneepapppbchnaaGreatDCalls
namespace Go.Proofs.YtneepapppbchnaaGreat
open Go.RowKit
set_option linter.unusedVariables false
variable {tk : Nat}

theorem Moved.from {w w2 w4 : World} {b r T : Nat} {P : Nat → Prop} (h : Only (fun _ => False) w w2) (hm : Moved w2 w4 b r T P) : Moved w w4 b r T P := by
  obtain ⟨fs, P', h1, h2, h3⟩ := hm
  refine ⟨fs, P', h1, (h.mono (T := fun x => P x ∨ x = r) (fun _ _ q => q.elim)).trans h2 (fun _ _ q => q), fun x hx => ?_⟩
  rcases h3 x hx with q | q
  · exact .inl q
  · exact .inr (Nat.le_trans h.size q)
theorem boxes_only (w : World) (o1 o2 : Obj) : Only (fun _ => False) w ((w.alloc o1).alloc o2) := ((Only.refl _ w).alloc _).alloc _
theorem Plate.boxed {w : World} {b r T : Nat} {fs : Nat → Fm} {P : Nat → Prop} (h : Plate w b r fs T P) (o1 o2 : Obj) : Plate ((w.alloc o1).alloc o2) b r fs T P := h.kept (boxes_only w o1 o2) (fun _ _ q => q)
theorem Plate.lt {w : World} {b r T : Nat} {fs : Nat → Fm} {P : Nat → Prop} (h : Plate w b r fs T P) : ∀ x, P x → x < w.heap.size := by
  obtain ⟨tk, vs, q, _⟩ := h.pd
  exact q.lt
theorem Plate.rlt {w : World} {b r T : Nat} {fs : Nat → Fm} {P : Nat → Prop} (h : Plate w b r fs T P) : r < w.heap.size := by
  obtain ⟨us, st, q⟩ := h.rd
  exact q.lt
theorem filed_mid {w w3 : World} {b r T : Nat} {fs fs' : Nat → Fm} {P : Nat → Prop} {x1 x2 : Array Value} {t1 t2 : TypeId} (h : Plate w b r fs T P) (hx : PX tk ((w.alloc (.cells x1 t1)).alloc (.cells x2 t2)) w3 b fs' P) :
    w3.heap[w.heap.size]? = some (.cells x1 t1 (0, 0)) ∧ w3.heap[w.heap.size + 1]? = some (.cells x2 t2 (0, 0)) ∧ ∃ us st, RD w3 r fs us st := by
  obtain ⟨vs, P', q1, q2, q3⟩ := hx
  obtain ⟨us, st, hr⟩ := (h.boxed (.cells x1 t1) (.cells x2 t2)).rd
  have hlt := h.lt
  refine ⟨?_, ?_, us, st, hr.kept q2 h.nr⟩
  · rw [q2.block w.heap.size (by simp; omega) (fun hp => by have := hlt _ hp; omega), Below.heap_alloc (w.alloc (.cells x1 t1)) _ w.heap.size (by simp)]
    exact heap_alloc_new w _
  · rw [q2.block (w.heap.size + 1) (by simp) (fun hp => by have := hlt _ hp; omega)]
    have := heap_alloc_new (w.alloc (.cells x1 t1)) (.cells x2 t2)
    simpa using this
theorem filed_end {w w3 w4 : World} {b r T : Nat} {fs fs' : Nat → Fm} {P : Nat → Prop} {o1 o2 : Obj} {us st : Int} (h : Plate w b r fs T P) (hx : PX tk ((w.alloc o1).alloc o2) w3 b fs' P) (ht : tk ≤ T + 1) (hr : RD w4 r fs' us st) (ho : Only (fun x => x = r) w3 w4) (hf : ∀ k, k < 7 → (fs' k).fineT (T + 1)) : Moved w w4 b r (T + 1) P :=
  Moved.from (boxes_only w o1 o2) ((h.boxed o1 o2).moved hf ht hx (fun _ => ⟨us, st, hr⟩) ho)
theorem box_frozen {w : World} {g : Nat} {c : Array Value} {t : TypeId} (h : w.heap[g]? = some (.cells c t (0, 0))) (o : Nat) : w.frozen? ⟨g, o, none⟩ = false := by
  simp [World.frozen?, h]
theorem box_cell {w : World} {g : Nat} {c : Array Value} {t : TypeId} (h : w.heap[g]? = some (.cells c t (0, 0))) (o : Nat) (v : Value) (hv : c[o]? = some v) : w.cell? ⟨g, o, none⟩ = some v := by
  simp [World.cell?, h, hv]
set_option maxRecDepth 100000 in
theorem filed_append (b r T : Nat) (on a bb sh la rk rt rg : Int) (s t : List UInt8) (a1 a2 a3 : Option Addr) (n1 c1 n2 c2 n3 c3 : Nat) (fs : Nat → Fm) (P : Nat → Prop) (w : World) (h : Plate w b r fs T P) (hT : T < 4611686018427387904) (hs : s.length ≤ 140737488355328) (hb : bb < 9223372036854775808) :
    Calls Tryz.prog 43 #[.agg #[.pointer (some ⟨b, 0, none⟩), .pointer (some ⟨r, 0, none⟩)], .agg #[.int .i64 11, .int .i64 on, .int .i64 a, .int .i64 bb, .string (textOf s), .string (textOf t), .int .i64 sh, .int .i64 la, .int .i64 rk, .int .i64 rt, .int .i64 rg, .slice a1 n1 c1, .slice a2 n2 c2, .slice a3 n3 c3]] w fun e w' => e = .returned (.bool true) ∧ Moved w w' b r (T + 1) P := by
  have hfine : ∀ k, k < 7 → (fs k).fine := fun k hk => (h.fine k hk).fine hT
  have H := hide h
  obtain ⟨tk, vs, hpd, htk⟩ := h.pd
  have HPD : Hid (∀ o1 o2, PD tk ((w.alloc o1).alloc o2) b vs fs P) := fun o1 o2 => hpd.kept (boxes_only w o1 o2) (fun _ _ q => q)
  have HFI := hide hfine
  have HF2 : Hid (∀ k, k < 7 → ((appD fs a s).2 k).fineT (T + 1)) := appD_fine a s h.fine
  clear hpd h hfine hb
  go_enter Tryz.func43, Tryz.ntmps43
  go_wp2_with fail
  refine (pAppend_any b a s vs fs P _ (HPD.out _ _) HFI.out hs).mono ?_
  rintro e w3 ⟨rfl, hx⟩
  have HX := hide hx
  obtain ⟨m1, m2, us, st, hr3⟩ := filed_mid H.out hx
  have x1 := box_cell m1 1 _ rfl
  have y2 := box_cell m2 2 _ rfl
  have y3 := box_cell m2 3 _ rfl
  have y4 := box_cell m2 4 _ rfl
  have HR := hide hr3
  clear hr3 hx m1 m2
  go_wp2_with fail
  refine (rAppend_any r a s fs us st _ HR.out HFI.out hs).mono ?_
  rintro e w4 ⟨rfl, hr4, ho4⟩
  have HM := hide (filed_end H.out HX.out (by omega) hr4 ho4 HF2.out)
  clear hr4 ho4 HX HR x1 y2 y3 y4
  go_wp2_with fail
  refine (num_any _ _).mono ?_
  rintro e w5 ⟨rfl, rfl⟩
  go_wp2_with fail
  go_ret
  exact ⟨rfl, HM.out⟩
set_option maxRecDepth 100000 in
theorem filed_sync (b r T : Nat) (on a bb sh la rk rt rg : Int) (s t : List UInt8) (a1 a2 a3 : Option Addr) (n1 c1 n2 c2 n3 c3 : Nat) (fs : Nat → Fm) (P : Nat → Prop) (w : World) (h : Plate w b r fs T P) (hT : T < 4611686018427387904) (hs : s.length ≤ 140737488355328) (hb : bb < 9223372036854775808) :
    Calls Tryz.prog 43 #[.agg #[.pointer (some ⟨b, 0, none⟩), .pointer (some ⟨r, 0, none⟩)], .agg #[.int .i64 12, .int .i64 on, .int .i64 a, .int .i64 bb, .string (textOf s), .string (textOf t), .int .i64 sh, .int .i64 la, .int .i64 rk, .int .i64 rt, .int .i64 rg, .slice a1 n1 c1, .slice a2 n2 c2, .slice a3 n3 c3]] w fun e w' => e = .returned (.bool true) ∧ Moved w w' b r (T + 1) P := by
  have hfine : ∀ k, k < 7 → (fs k).fine := fun k hk => (h.fine k hk).fine hT
  have H := hide h
  obtain ⟨tk, vs, hpd, htk⟩ := h.pd
  have HPD : Hid (∀ o1 o2, PD tk ((w.alloc o1).alloc o2) b vs fs P) := fun o1 o2 => hpd.kept (boxes_only w o1 o2) (fun _ _ q => q)
  have HFI := hide hfine
  have HF2 : Hid (∀ k, k < 7 → ((syncD fs a).2 k).fineT (T + 1)) := syncD_fine a h.fine
  clear hpd h hfine hb
  go_enter Tryz.func43, Tryz.ntmps43
  go_wp2_with fail
  refine (pSync_any b a vs fs P _ (HPD.out _ _) HFI.out).mono ?_
  rintro e w3 ⟨rfl, hx⟩
  have HX := hide hx
  obtain ⟨m1, m2, us, st, hr3⟩ := filed_mid H.out hx
  have x1 := box_cell m1 1 _ rfl
  have y2 := box_cell m2 2 _ rfl
  have y3 := box_cell m2 3 _ rfl
  have y4 := box_cell m2 4 _ rfl
  have HR := hide hr3
  clear hr3 hx m1 m2
  go_wp2_with fail
  refine (rSync_any r a fs us st _ HR.out HFI.out).mono ?_
  rintro e w4 ⟨rfl, hr4, ho4⟩
  have HM := hide (filed_end H.out HX.out (by omega) hr4 ho4 HF2.out)
  clear hr4 ho4 HX HR x1 y2 y3 y4
  go_wp2_with fail
  refine (num_any _ _).mono ?_
  rintro e w5 ⟨rfl, rfl⟩
  go_wp2_with fail
  go_ret
  exact ⟨rfl, HM.out⟩
set_option maxRecDepth 100000 in
theorem filed_cut (b r T : Nat) (on a bb sh la rk rt rg : Int) (s t : List UInt8) (a1 a2 a3 : Option Addr) (n1 c1 n2 c2 n3 c3 : Nat) (fs : Nat → Fm) (P : Nat → Prop) (w : World) (h : Plate w b r fs T P) (hT : T < 4611686018427387904) (hs : s.length ≤ 140737488355328) (hb : bb < 9223372036854775808) :
    Calls Tryz.prog 43 #[.agg #[.pointer (some ⟨b, 0, none⟩), .pointer (some ⟨r, 0, none⟩)], .agg #[.int .i64 13, .int .i64 on, .int .i64 a, .int .i64 bb, .string (textOf s), .string (textOf t), .int .i64 sh, .int .i64 la, .int .i64 rk, .int .i64 rt, .int .i64 rg, .slice a1 n1 c1, .slice a2 n2 c2, .slice a3 n3 c3]] w fun e w' => e = .returned (.bool true) ∧ Moved w w' b r (T + 1) P := by
  have hfine : ∀ k, k < 7 → (fs k).fine := fun k hk => (h.fine k hk).fine hT
  have H := hide h
  obtain ⟨tk, vs, hpd, htk⟩ := h.pd
  have HPD : Hid (∀ o1 o2, PD tk ((w.alloc o1).alloc o2) b vs fs P) := fun o1 o2 => hpd.kept (boxes_only w o1 o2) (fun _ _ q => q)
  have HFI := hide hfine
  have HF2 : Hid (∀ k, k < 7 → ((cutD fs a bb).2 k).fineT (T + 1)) := cutD_fine a bb h.fine
  clear hpd h hfine hb
  go_enter Tryz.func43, Tryz.ntmps43
  go_wp2_with fail
  refine (pCut_any b a bb vs fs P _ (HPD.out _ _) HFI.out).mono ?_
  rintro e w3 ⟨rfl, hx⟩
  have HX := hide hx
  obtain ⟨m1, m2, us, st, hr3⟩ := filed_mid H.out hx
  have x1 := box_cell m1 1 _ rfl
  have y2 := box_cell m2 2 _ rfl
  have y3 := box_cell m2 3 _ rfl
  have y4 := box_cell m2 4 _ rfl
  have HR := hide hr3
  clear hr3 hx m1 m2
  go_wp2_with fail
  refine (rCut_any r a bb fs us st _ HR.out HFI.out).mono ?_
  rintro e w4 ⟨rfl, hr4, ho4⟩
  have HM := hide (filed_end H.out HX.out (by omega) hr4 ho4 HF2.out)
  clear hr4 ho4 HX HR x1 y2 y3 y4
  go_wp2_with fail
  refine (num_any _ _).mono ?_
  rintro e w5 ⟨rfl, rfl⟩
  go_wp2_with fail
  go_ret
  exact ⟨rfl, HM.out⟩
set_option maxRecDepth 100000 in
theorem filed_read (b r T : Nat) (on a bb sh la rk rt rg : Int) (s t : List UInt8) (a1 a2 a3 : Option Addr) (n1 c1 n2 c2 n3 c3 : Nat) (fs : Nat → Fm) (P : Nat → Prop) (w : World) (h : Plate w b r fs T P) (hT : T < 4611686018427387904) (hs : s.length ≤ 140737488355328) (hb : bb < 9223372036854775808) :
    Calls Tryz.prog 43 #[.agg #[.pointer (some ⟨b, 0, none⟩), .pointer (some ⟨r, 0, none⟩)], .agg #[.int .i64 14, .int .i64 on, .int .i64 a, .int .i64 bb, .string (textOf s), .string (textOf t), .int .i64 sh, .int .i64 la, .int .i64 rk, .int .i64 rt, .int .i64 rg, .slice a1 n1 c1, .slice a2 n2 c2, .slice a3 n3 c3]] w fun e w' => e = .returned (.bool true) ∧ Moved w w' b r (T + 1) P := by
  have hfine : ∀ k, k < 7 → (fs k).fine := fun k hk => (h.fine k hk).fine hT
  have H := hide h
  obtain ⟨tk, vs, hpd, htk⟩ := h.pd
  have HPD : Hid (∀ o1 o2, PD tk ((w.alloc o1).alloc o2) b vs fs P) := fun o1 o2 => hpd.kept (boxes_only w o1 o2) (fun _ _ q => q)
  have HFI := hide hfine
  have HF2 : Hid (∀ k, k < 7 → ((readD fs a).2 k).fineT (T + 1)) := readD_fine a h.fine
  clear hpd h hfine hb
  go_enter Tryz.func43, Tryz.ntmps43
  go_wp2_with fail
  refine (pRead_any b a vs fs P _ (HPD.out _ _) HFI.out).mono ?_
  rintro e w3 ⟨rfl, hx⟩
  have HX := hide hx
  obtain ⟨m1, m2, us, st, hr3⟩ := filed_mid H.out hx
  have x1 := box_cell m1 1 _ rfl
  have y2 := box_cell m2 2 _ rfl
  have y3 := box_cell m2 3 _ rfl
  have y4 := box_cell m2 4 _ rfl
  have HR := hide hr3
  clear hr3 hx m1 m2
  go_wp2_with fail
  refine (rRead_any r a fs us st _ HR.out HFI.out).mono ?_
  rintro e w4 ⟨rfl, hr4, ho4⟩
  have HM := hide (filed_end H.out HX.out (by omega) hr4 ho4 HF2.out)
  clear hr4 ho4 HX HR x1 y2 y3 y4
  go_wp2_with fail
  refine (num_any _ _).mono ?_
  rintro e w5 ⟨rfl, rfl⟩
  go_wp2_with fail
  go_ret
  exact ⟨rfl, HM.out⟩
set_option maxRecDepth 100000 in
theorem filed_trouble (b r T : Nat) (on a bb sh la rk rt rg : Int) (s t : List UInt8) (a1 a2 a3 : Option Addr) (n1 c1 n2 c2 n3 c3 : Nat) (fs : Nat → Fm) (P : Nat → Prop) (w : World) (h : Plate w b r fs T P) (hT : T < 4611686018427387904) (hs : s.length ≤ 140737488355328) (hb : bb < 9223372036854775808) :
    Calls Tryz.prog 43 #[.agg #[.pointer (some ⟨b, 0, none⟩), .pointer (some ⟨r, 0, none⟩)], .agg #[.int .i64 15, .int .i64 on, .int .i64 a, .int .i64 bb, .string (textOf s), .string (textOf t), .int .i64 sh, .int .i64 la, .int .i64 rk, .int .i64 rt, .int .i64 rg, .slice a1 n1 c1, .slice a2 n2 c2, .slice a3 n3 c3]] w fun e w' => e = .returned (.bool true) ∧ Moved w w' b r (T + 1) P := by
  have hfine : ∀ k, k < 7 → (fs k).fine := fun k hk => (h.fine k hk).fine hT
  have H := hide h
  obtain ⟨tk, vs, hpd, htk⟩ := h.pd
  have HPD : Hid (∀ o1 o2, PD tk ((w.alloc o1).alloc o2) b vs fs P) := fun o1 o2 => hpd.kept (boxes_only w o1 o2) (fun _ _ q => q)
  have HFI := hide hfine
  have HF2 : Hid (∀ k, k < 7 → ((troubleD fs a bb).2 k).fineT (T + 1)) := troubleD_fine a bb hb h.fine
  clear hpd h hfine hb
  go_enter Tryz.func43, Tryz.ntmps43
  go_wp2_with fail
  refine (pTrouble_any b a bb vs fs P _ (HPD.out _ _) HFI.out).mono ?_
  rintro e w3 ⟨rfl, hx⟩
  have HX := hide hx
  obtain ⟨m1, m2, us, st, hr3⟩ := filed_mid H.out hx
  have x1 := box_cell m1 1 _ rfl
  have y2 := box_cell m2 2 _ rfl
  have y3 := box_cell m2 3 _ rfl
  have y4 := box_cell m2 4 _ rfl
  have HR := hide hr3
  clear hr3 hx m1 m2
  go_wp2_with fail
  refine (rTrouble_any r a bb fs us st _ HR.out HFI.out).mono ?_
  rintro e w4 ⟨rfl, hr4, ho4⟩
  have HM := hide (filed_end H.out HX.out (by omega) hr4 ho4 HF2.out)
  clear hr4 ho4 HX HR x1 y2 y3 y4
  go_wp2_with fail
  refine (num_any _ _).mono ?_
  rintro e w5 ⟨rfl, rfl⟩
  go_wp2_with fail
  go_ret
  exact ⟨rfl, HM.out⟩
set_option maxRecDepth 100000 in
theorem filed_crash (b r T : Nat) (on a bb sh la rk rt rg : Int) (s t : List UInt8) (a1 a2 a3 : Option Addr) (n1 c1 n2 c2 n3 c3 : Nat) (fs : Nat → Fm) (P : Nat → Prop) (w : World) (h : Plate w b r fs T P) (hT : T < 4611686018427387904) (hs : s.length ≤ 140737488355328) (hb : bb < 9223372036854775808) :
    Calls Tryz.prog 43 #[.agg #[.pointer (some ⟨b, 0, none⟩), .pointer (some ⟨r, 0, none⟩)], .agg #[.int .i64 16, .int .i64 on, .int .i64 a, .int .i64 bb, .string (textOf s), .string (textOf t), .int .i64 sh, .int .i64 la, .int .i64 rk, .int .i64 rt, .int .i64 rg, .slice a1 n1 c1, .slice a2 n2 c2, .slice a3 n3 c3]] w fun e w' => e = .returned (.bool true) ∧ Moved w w' b r (T + 1) P := by
  have hfine : ∀ k, k < 7 → (fs k).fine := fun k hk => (h.fine k hk).fine hT
  have H := hide h
  obtain ⟨tk, vs, hpd, htk⟩ := h.pd
  have HPD : Hid (∀ o1 o2, PD tk ((w.alloc o1).alloc o2) b vs fs P) := fun o1 o2 => hpd.kept (boxes_only w o1 o2) (fun _ _ q => q)
  have HFI := hide hfine
  have HF2 : Hid (∀ k, k < 7 → ((crashed fs a s 7) k).fineT (T + 1)) := crashed_fine a s h.fine
  clear hpd h hfine hb
  go_enter Tryz.func43, Tryz.ntmps43
  go_wp2_with fail
  refine (pCrash_any b a s vs fs P _ (HPD.out _ _) HFI.out hs (by omega)).mono ?_
  rintro e w3 ⟨rfl, hx⟩
  have HX := hide hx
  obtain ⟨m1, m2, us, st, hr3⟩ := filed_mid H.out hx
  have x1 := box_cell m1 1 _ rfl
  have y2 := box_cell m2 2 _ rfl
  have y3 := box_cell m2 3 _ rfl
  have y4 := box_cell m2 4 _ rfl
  have HR := hide hr3
  clear hr3 hx m1 m2
  go_wp2_with fail
  refine (rCrash_any r a s fs us st _ HR.out HFI.out hs).mono ?_
  rintro e w4 ⟨rfl, hr4, ho4⟩
  have HM := hide (filed_end H.out HX.out (by omega) hr4 ho4 HF2.out)
  clear hr4 ho4 HX HR x1 y2 y3 y4
  go_wp2_with fail
  refine (num_any _ _).mono ?_
  rintro e w5 ⟨rfl, rfl⟩
  go_wp2_with fail
  go_ret
  exact ⟨rfl, HM.out⟩
end Go.Proofs.YtneepapppbchnaaGreat
