/- The walk of Encode. -/
import Derived.Test.YtneepapppbchnaaEnc
namespace Go.Proofs.Ytneepapppbchnaa
open Go.RowKit
set_option linter.unusedVariables false

/-- all of a frame that stands ahead of its sum -/
def headL (k t g : Nat) (ws : List WrL) : List UInt8 := [112] ++ numL k 1 ++ (numL (payL k t g ws).length 1 ++ payL k t g ws)
/-- a record's frame -/
def frameL (k t g : Nat) (ws : List WrL) : List UInt8 := headL k t g ws ++ numL (sumOf (headL k t g ws)) 4
/-- what Encode answers -/
def encS (k t g : Int) (ws : List WrL) : ByteArray := if recB k t g ws = true then ⟨(frameL k.toNat t.toNat g.toNat ws).toArray⟩ else ⟨#[]⟩
def encE (k t g : Int) (ws : List WrL) : Int := if recB k t g ws = true then 0 else 1

theorem payL_length (k t g : Nat) (ws : List WrL) (hw : k = 1 ∨ k = 2 ∨ k = 5 → 0 < ws.length ∧ Short ws) : (payL k t g ws).length ≤ 165 := by
  unfold payL
  split
  · rename_i h
    obtain ⟨_, h6, hs⟩ := hw h
    have := flat_length ws hs ws.length (Nat.le_refl _)
    rw [List.take_length] at this
    unfold wsBytes
    simp only [List.length_append, numL_length]
    omega
  · split
    · simp [numL_length]
    · split <;> simp [numL_length]

theorem nil_text {P : Program} (w : World) (src dst e : TypeId) (hs : P.underlying src = some (.slice e)) (he : P.underlying e = some (.int .u8)) (hd : P.underlying dst = some .string) :
    (convert src dst (.slice none 0 0)).run P w = .ok (.string ⟨#[]⟩) w := by
  rw [run_convert_bytes_string w src dst e none 0 0 hs he hd]
  rfl
theorem Bs.run_text {w : World} {v : Value} {l : List UInt8} (h : Bs w v l) : (convert 28 9 v).run Try.prog w = .ok (.string ⟨l.toArray⟩) w := by
  rcases h.2 with ⟨rfl, h2⟩ | ⟨g, cap, cur, rfl, h1⟩
  · have : l = [] := List.eq_nil_of_length_eq_zero h2
    subst this
    exact nil_text w _ _ _ Try.underlying28 Try.underlying5 Try.underlying9
  · refine toText w 28 9 5 g cap l.length l rfl Try.underlying28 Try.underlying5 Try.underlying9 ?_
    intro j hj
    have := (World.ownsRow.cells h (g := g) rfl) j (byteV l[j]) (by rw [List.getElem?_map, List.getElem?_eq_getElem hj]; rfl)
    simpa [Addr.add_lit, byteV] using this
theorem Bs.ex_text {w : World} {v : Value} {l : List UInt8} (h : Bs w v l) : ∃ s : ByteArray, s.data.toList = l ∧ s.size = l.length ∧ (convert 28 9 v).run Try.prog w = .ok (.string s) w :=
  ⟨⟨l.toArray⟩, rfl, rfl, h.run_text⟩
theorem Bs_one (w : World) (y : UInt8) : Bs (w.alloc (.cells #[byteV y] 5)) (.slice (some ⟨w.heap.size, 0, none⟩) 1 1) [y] :=
  ⟨rfl, .inr ⟨w.heap.size, 1, #[byteV y], rfl, Nat.zero_le _, heap_alloc_new w _, Nat.le_refl _, by decide, rfl, rfl⟩⟩
theorem Bs.kept {w w' : World} {v : Value} {l : List UInt8} (h : Bs w v l) (hb : ∀ g, v.ownBlock = some g → w'.heap[g]? = w.heap[g]?) : Bs w' v l := by
  obtain ⟨h1, h2⟩ := h
  refine ⟨h1, ?_⟩
  rcases h2 with h2 | ⟨g, cap, cur, rfl, h3, h4, h5⟩
  · exact .inl h2
  · exact .inr ⟨g, cap, cur, rfl, h3, (hb g rfl).trans h4, h5⟩

set_option maxHeartbeats 400000 in
set_option maxRecDepth 100000 in
theorem fEncode_no (k t g : Int) (v : Value) (ws : List WrL) (w : World) (hv : WsAt w v ws) (hs : SizedAll ws) (hm : ws.length ≤ maxLen) (hr : recB k t g ws = false) :
    Calls Try.prog 35 #[recV k t g v] w fun e w' => e = .returned (.tuple #[.string ⟨#[]⟩, .int .i64 1]) ∧ Below w.heap.size w w' := by
  obtain ⟨a, cap, rfl⟩ := hv.form
  have HI := isRecord_any k t g _ ws _ (hv.below (box_below w (.cells #[.int .i64 k, .int .i64 t, .int .i64 g, .slice a ws.length cap] 32))) hs hm
  rw [hr] at HI
  unfold recV at *
  go_enter Try.func35, Try.ntmps35
  go_wp2_with fail
  refine HI.mono ?_
  rintro e w1 ⟨rfl, hb1⟩
  go_wp2_with fail
  go_ret2
  exact ⟨rfl, box_then hb1⟩

set_option maxHeartbeats 400000 in
set_option maxRecDepth 100000 in
theorem fEncode_yes (k t g : Nat) (v : Value) (ws : List WrL) (w : World) (hv : WsAt w v ws) (hs : SizedAll ws) (hm : ws.length ≤ maxLen) (hr : recB k t g ws = true)
    (h1 : 1 ≤ k) (h6 : k ≤ 6) (ht : t ≤ 65535) (hg : g ≤ 65535) (hw : k = 1 ∨ k = 2 ∨ k = 5 → 0 < ws.length ∧ Short ws) :
    Calls Try.prog 35 #[recV k t g v] w fun e w' => e = .returned (.tuple #[.string ⟨(frameL k t g ws).toArray⟩, .int .i64 0]) ∧ Below w.heap.size w w' := by
  have hpl := payL_length k t g ws hw
  have HF : Hid (frameL k t g ws = headL k t g ws ++ numL (sumOf (headL k t g ws)) 4) := rfl
  have HH : Hid (headL k t g ws = [112] ++ numL k 1 ++ (numL (payL k t g ws).length 1 ++ payL k t g ws)) := rfl
  have hvb := hv.below (box_below w (.cells #[.int .i64 k, .int .i64 t, .int .i64 g, v] 32))
  have HI := isRecord_any k t g v ws _ hvb hs hm
  rw [hr] at HI
  have hx0 : (w.alloc (.cells #[.int .i64 k, .int .i64 t, .int .i64 g, v] 32)).cell? ⟨w.heap.size, 0, none⟩ = some (.int .i64 k) := by simp
  have hx1 : (w.alloc (.cells #[.int .i64 k, .int .i64 t, .int .i64 g, v] 32)).cell? ⟨w.heap.size, 1, none⟩ = some (.int .i64 t) := by simp
  have hx2 : (w.alloc (.cells #[.int .i64 k, .int .i64 t, .int .i64 g, v] 32)).cell? ⟨w.heap.size, 2, none⟩ = some (.int .i64 g) := by simp
  have hx3 : (w.alloc (.cells #[.int .i64 k, .int .i64 t, .int .i64 g, v] 32)).cell? ⟨w.heap.size, 3, none⟩ = some v := by simp
  have hBW := box_below w (.cells #[.int .i64 k, .int .i64 t, .int .i64 g, v] 32)
  obtain ⟨a, cap, rfl⟩ := hv.form
  unfold recV at *
  go_enter Try.func35, Try.ntmps35
  go_wp2_with fail
  refine HI.mono ?_
  rintro e w1 ⟨rfl, hb1⟩
  clear HI
  generalize w.alloc (.cells #[.int .i64 k, .int .i64 t, .int .i64 g, .slice a ws.length cap] 32) = W at *
  have hwW : w.heap.size < W.heap.size := World.block_lt_of_cell? W _ hx1
  have y0 := (hb1.cell hwW).trans hx0
  have y1 := (hb1.cell hwW).trans hx1
  have y2 := (hb1.cell hwW).trans hx2
  have y3 := (hb1.cell hwW).trans hx3
  have hv1 := hvb.below hb1
  go_wp2_with fail
  refine (payload_any k t g _ ws _ hv1 h1 h6 ht hg hw).mono ?_
  rintro e w2 ⟨v2, rfl, hp2, hb2, hn2⟩
  generalize payL k t g ws = pl at *
  have hw1 : w.heap.size < w1.heap.size := Nat.lt_of_lt_of_le hwW hb1.size
  have z0 := (hb2.cell hw1).trans y0
  have hw2 : w.heap.size < w2.heap.size := Nat.lt_of_lt_of_le hw1 hb2.size
  have hB : Bs (w2.alloc (.cells #[.int .u8 112] 5)) (.slice (some ⟨w2.heap.size, 0, none⟩) 1 1) [112] := Bs_one w2 112
  have hB2 : Below w.heap.size w w2 := hBW.trans ((hb1.mono hBW.size).trans (hb2.mono (Nat.le_of_lt hw1)))
  go_wp2_with fail
  refine (appendNumber_any _ [112] k 1 _ hB (by omega) (by omega) (by simp)).mono ?_
  rintro e w3 ⟨v3, rfl, hb3, hg3, hn3⟩
  have hp3 : Bs w3 v2 pl := hp2.kept (fun g hg => by
    have hlt := (World.ownsRow.lt hp2 g hg).2
    exact (hg3.block g (by simp; omega) (by intro h; injection h with h; exact absurd h (Nat.ne_of_lt hlt))).trans (Below.heap_alloc w2 _ g hlt))
  obtain ⟨s3, hs3, hz3, hr3⟩ := hp3.ex_text
  have HS3 : Hid (s3.data.toList = pl) := hs3
  have HZ3 : Hid (s3.size = pl.length) := hz3
  have hz3' : s3.size ≤ 165 := by omega
  clear hs3 hz3
  have hl3 : ([112] ++ numL k 1).length ≤ 999990 := by simp [numL_length]
  go_wp2_with fail
  refine (appendText_any v3 _ s3 _ hb3 hl3 (by omega)).mono ?_
  rintro e w4 ⟨v4, rfl, hb4, hg4, hn4⟩
  have HH4 : Hid ([112] ++ numL k 1 ++ numL s3.size 1 ++ s3.data.toList = headL k t g ws) := by
    show _ = _
    rw [HH.out, HS3.out, HZ3.out]; simp only [List.append_assoc]
  rw [HH4.out] at hb4
  have hhl : (headL k t g ws).length ≤ 1000 := by
    rw [HH.out]; simp only [List.length_append, numL_length, List.length_singleton]; omega
  generalize headL k t g ws = hd at *
  obtain ⟨s4, hs4, hz4, hr4⟩ := hb4.ex_text
  have HS4 : Hid (s4.data.toList = hd) := hs4
  have hz4' : s4.size ≤ maxLen := by unfold maxLen; omega
  clear hs4 hz4
  have hsum := sumOf_lt s4.data.toList
  go_wp2_with fail
  refine (fsum_any s4 _ hz4').mono ?_
  rintro e w5 ⟨rfl, rfl⟩
  go_wp2_with fail
  refine (appendNumber_any v4 hd _ 4 _ hb4 (by omega) hsum (by omega)).mono ?_
  rintro e w6 ⟨v6, rfl, hb6, hg6, hn6⟩
  rw [HS4.out] at hb6
  have hr6 := hb6.run_text
  rw [← HF.out] at hr6
  go_wp2_with fail
  go_ret2
  refine ⟨rfl, hB2.trans ?_⟩
  have g1 : w2.grownBy w6 (some w2.heap.size) := grown_trans (v := .slice (some ⟨w2.heap.size, 0, none⟩) 1 1) (grown_alloc (grown_refl _ _) _) (Newer.refl _ _) (grown_trans hg3 hn3 (grown_trans hg4 hn4 hg6))
  exact (Below.refl _ _).grown g1 (Nat.le_of_lt hw2) (fun k hk => by injection hk with hk; omega)
theorem fEncode_any (k t g : Int) (v : Value) (ws : List WrL) (w : World) (hv : WsAt w v ws) (hs : SizedAll ws) (hm : ws.length ≤ maxLen) :
    Calls Try.prog 35 #[recV k t g v] w fun e w' => e = .returned (.tuple #[.string (encS k t g ws), .int .i64 (encE k t g ws)]) ∧ Below w.heap.size w w' := by
  cases hr : recB k t g ws
  · unfold encS encE; rw [hr]; exact fEncode_no k t g v ws w hv hs hm hr
  · obtain ⟨kn, tn, gn, rfl, rfl, rfl, h1, h6, ht, hg, hw, _⟩ := rec_nat hr
    unfold encS encE; rw [hr]; exact fEncode_yes kn tn gn v ws w hv hs hm hr h1 h6 ht hg hw
set_option maxHeartbeats 400000 in
theorem pEncode_any (k t g : Int) (v : Value) (ws : List WrL) (w : World) (hv : WsAt w v ws) (hs : SizedAll ws) (hm : ws.length ≤ maxLen) :
    Calls Try.prog 16 #[recV k t g v] w fun e w' => e = .returned (.tuple #[.string (encS k t g ws), .int .i64 (encE k t g ws)]) ∧ Below w.heap.size w w' := by
  have HI := fEncode_any k t g v ws _ (hv.below (box_below w (.cells #[.int .i64 k, .int .i64 t, .int .i64 g, v] 32))) hs hm
  obtain ⟨a, cap, rfl⟩ := hv.form
  unfold recV at *
  go_enter Try.func16, Try.ntmps16
  go_wp2_with fail
  refine HI.mono ?_
  rintro e w1 ⟨rfl, hb1⟩
  go_wp2_with fail
  go_ret2
  exact ⟨rfl, box_then hb1⟩
end Go.Proofs.Ytneepapppbchnaa
