/-
  What the laws of layer 7 share: numbers as words, a word's whole text, Pairs that are made. Condition: the numbers' table.
-/
import Derived.Test.YtbglcdjimipeeaaGreatDoorShowShown
import Derived.Test.YtbglcdjimipeeaaGreatDoorShowDigits
import Derived.Test.YtbglcdjimipeeaaGreatDoorShowChain
namespace Go.Proofs.YtbglcdjimipeeaaGreatDoor
open Go.RowKit
namespace SX
open LX
theorem enc_wrap (v : Int) : IntKind.u64.wrap (IntKind.u64.wrap v * 8) = WP.encW v := by
  unfold WP.encW
  simp only [IntKind.wrap, IntKind.signed, IntKind.bits]
  simp
  omega
theorem enc_u (v : Int) : WP.U (WP.encW v) := by
  unfold WP.U WP.encW
  omega
abbrev noS : Int → ByteArray := fun _ => ⟨#[]⟩
abbrev noB : Int → Bool := fun _ => false
theorem cut_few {L : List UInt8} (h : L.length ≤ 120) : cutL L = L := by unfold cutL; rw [if_pos h]
end SX
namespace SW
open LX RX RW6 SX
/-- A word's text, as the caller wants it spelled. -/
theorem shown_as {w : World} {p g h n : Nat} {ts : List AP.Th} (hA : AW.Ar w p g h n ts) (hT : Tab w) (x : Int) (hx : WP.U x) {L : List UInt8} (hS : Sh noS noB ts false x L) (V : ByteArray) (hV : str (cutL L) = V) :
    Calls Tryz.prog 20 #[AW.ptr p, .pointer none, .int .u64 x] w fun e w' => e = .returned (.string V) ∧ MM.Far [] w w' := by
  have := show_any hA (nms_nil w) hT x hx
  rw [cut_sh hS, hV] at this
  exact this
theorem shown_text {w : World} {p g h n : Nat} {ts : List AP.Th} (hA : AW.Ar w p g h n ts) (hT : Tab w) (x : Int) (hx : WP.U x) {L : List UInt8} (hS : Sh noS noB ts false x L) (hl : L.length ≤ 120) (V : ByteArray) (hV : str L = V) :
    Calls Tryz.prog 20 #[AW.ptr p, .pointer none, .int .u64 x] w fun e w' => e = .returned (.string V) ∧ MM.Far [] w w' := by
  have := show_any hA (nms_nil w) hT x hx
  rw [cut_sh hS, cut_few hl, hV] at this
  exact this
theorem in_three {p g h B : Nat} {W : World} (hB : W.heap.size = B) (h1 : B ≤ p ∧ B ≤ g ∧ B ≤ h) : ∀ b, b ∈ [p, g, h] → b < W.heap.size → b ∈ ([] : List Nat) := by
  intro b hb hl
  simp at hb
  omega
theorem src_two {w0 w : World} {p g h : Nat} (f : MM.Far [] w0 w) (h1 : p < w0.heap.size ∧ g < w0.heap.size ∧ h < w0.heap.size) (a b : Int) : MM.Src (w.alloc (.cells #[.int .u64 a, .int .u64 b] 32)) [p, g, h] (some ⟨w.heap.size, 0, none⟩) (AW.U64s [a, b]) :=
  MM.Src.row (MM.Row.new w 32 [.int .u64 a, .int .u64 b]) (by have := f.size; simp; omega) _ (fun j u hu => hu)
theorem alloc_two {w : World} {p g h n : Nat} {T : List AP.Th} (hA : AW.Ar w p g h n T) (a b W E : Int) (T' : List AP.Th) (ha : WP.U a) (hb : WP.U b) (hW : AW.allW n T 1 2 = W) (hE : AW.allE n T 1 2 = E) (hT : AW.allT n T 1 [a, b] = T') :
    Calls Tryz.prog 17 #[AW.ptr p, .int .i64 1, .slice (some ⟨w.heap.size, 0, none⟩) 2 2] (w.alloc (.cells #[.int .u64 a, .int .u64 b] 32)) fun e w' => e = .returned (.tuple #[.int .u64 W, .int .i64 E]) ∧ AW.Ar w' p g h n T' ∧ MM.Far [p, g, h] w w' := by
  refine (AW.alloc_to (hA.far ((MM.Far.refl [] w).alloc _) (by simp) (by simp) (by simp)) 1 _ 2 2 [a, b] W E T' rfl (by omega) (fun x hx => ?_) hW hE hT (src_two (MM.Far.refl [] w) ⟨hA.head.lt, hA.words.lt, hA.kinds.lt⟩ a b)).mono ?_
  · simp only [List.mem_cons, List.not_mem_nil, or_false] at hx
    rcases hx with rfl | rfl
    · exact ha
    · exact hb
  · rintro e w' ⟨he, h1, h2⟩
    exact ⟨he, h1, ((MM.Far.refl [p, g, h] w).alloc _).trans h2 (fun _ h _ => h)⟩
end SW
end Go.Proofs.YtbglcdjimipeeaaGreatDoor
