/- Memory that a call makes: a text turned into bytes and back. No program is named here. -/
import Derived.Test.YtneepapppbchnaaGreatPlain
import Derived.Laws.IdiomStrings
import Derived.WalkSpells
import Derived.WalkLawsBesides
namespace Go.Proofs.YtneepapppbchnaaGreat
open Go.RowKit
set_option linter.unusedVariables false

theorem bcell {W w1 : World} (hb : Below W.heap.size W w1) : (∀ b o, b < W.heap.size → w1.cell? ⟨b, o, none⟩ = W.cell? ⟨b, o, none⟩) ∧ (∀ b o, b < W.heap.size → w1.frozen? ⟨b, o, none⟩ = W.frozen? ⟨b, o, none⟩) :=
  ⟨fun b o h => hb.cell (p := ⟨b, o, none⟩) h, fun b o h => hb.frozen (p := ⟨b, o, none⟩) h⟩

/-- '[]byte(s)': a new row. -/
theorem toBytes {P : Program} (w : World) (src dst e : TypeId) (s : ByteArray) (hs : P.underlying src = some .string) (hd : P.underlying dst = some (.slice e)) (he : P.underlying e = some (.int .u8)) :
    ∃ cap W1, (convert src dst (.string s)).run P w = .ok (.slice (some ⟨w.heap.size, 0, none⟩) s.size cap) W1 ∧ s.size ≤ cap ∧ W1.heap.size = w.heap.size + 1 ∧ Below w.heap.size w W1 ∧
      (∀ j (h : j < s.size), W1.cell? ⟨w.heap.size, j, none⟩ = some (.int .u8 (s[j].toNat : Int))) ∧ (∀ j, j < s.size → W1.frozen? ⟨w.heap.size, j, none⟩ = false) := by
  refine ⟨_, _, run_bytes_of_string w src dst e s hs hd he, ?_, ?_, ?_, ?_, ?_⟩
  · exact grownCap_ge w s.size 0 e
  · simp
  · exact ((Below.refl _ _).drew).alloc (by simp) _
  · intro j h
    have h2 : j < s.data.size := h
    simp [World.cell?, World.alloc, World.drew, -World.alloc_eq, -World.drew_eq, bytesRow, Array.getElem?_append]
    rw [if_pos h, Array.getElem?_eq_getElem h2]
    rfl
  · intro j h
    have h2 : j < s.data.size := h
    simp [World.frozen?, World.alloc, World.drew, -World.alloc_eq, -World.drew_eq, bytesRow]
    omega
/-- 'string(b)', the bytes told by a list. -/
theorem toText {P : Program} (w : World) (src dst e : TypeId) (b : Nat) (cap n : Nat) (l : List UInt8) (hn : n = l.length) (hs : P.underlying src = some (.slice e)) (he : P.underlying e = some (.int .u8)) (hd : P.underlying dst = some .string)
    (hc : ∀ j (hj : j < l.length), w.cell? ⟨b, j, none⟩ = some (.int .u8 (l[j].toNat : Int))) :
    (convert src dst (.slice (some ⟨b, 0, none⟩) n cap)).run P w = .ok (.string ⟨l.toArray⟩) w := by
  subst hn
  exact run_convert_bytes_back w src dst e ⟨b, 0, none⟩ cap l hs he hd (fun j hj => by simpa [Addr.add_lit] using hc j hj)
theorem getByte (s : ByteArray) (j : Nat) (h : j < s.size) : s.data.toList[j]? = some s[j] := by
  have h2 : j < s.data.size := h
  rw [List.getElem?_eq_getElem (by simpa using h2)]
  rfl
theorem text_of_list (s : ByteArray) (l : List UInt8) (h : s.data.toList = l) : s = ⟨l.toArray⟩ := by
  obtain ⟨a⟩ := s; simp at h; subst h; rfl
theorem size_of_list (s : ByteArray) (l : List UInt8) (h : s.data.toList = l) : s.size = l.length := by
  obtain ⟨a⟩ := s; simp at h; subst h; simp [ByteArray.size]
end Go.Proofs.YtneepapppbchnaaGreat
