/-
  P5.2's law of names. No condition.
-/
import Derived.Test.YtbglcdjimipeeaaDoorLexWords
import Derived.Laws.IdiomStrings
namespace Go.Proofs.YtbglcdjimipeeaaDoor
open Go.RowKit
namespace LX
def xsOf (zs : List Int) : List UInt8 := zs.map (fun z => lts.getD (z.toNat % 35) 0)
theorem str_snoc (l : List UInt8) (x : UInt8) : str (l ++ [x]) = str l ++ str [x] := by
  apply ByteArray.ext
  rw [ByteArray.data_append]
  unfold str
  simp
theorem xs_let (zs : List Int) (k : Nat) : ((xsOf zs).take k).all let_ = true := by
  rw [List.all_eq_true]
  intro x hx
  have hx := List.mem_of_mem_take hx
  obtain ⟨z, _, rfl⟩ := List.mem_map.1 hx
  have h : z.toNat % 35 < 35 := Nat.mod_lt _ (by decide)
  refine lts_let _ ?_
  rw [List.getD_eq_getElem?_getD, List.getElem?_eq_getElem (show z.toNat % 35 < lts.length from h)]
  exact List.getElem_mem _
theorem lts_at (t : Nat) (h : t < 35) (h2 : t < ltsB.size) : ltsB[t] = lts.getD t 0 := by
  have : ∀ t : Fin 35, (ltsB[t.1]'(by have := t.2; exact this)) = lts.getD t.1 0 := by decide
  exact this ⟨t, h⟩
end LX
namespace LW
open LX
theorem byte_back (W : World) (x : UInt8) : (convert (22 : Nat) (9 : Nat) (.slice (some ⟨W.heap.size, 0, none⟩) 1 1)).run Tryd.prog (W.alloc (.cells #[.int .u8 (x.toNat : Int)] (5 : Nat))) = .ok (.string (str [x])) (W.alloc (.cells #[.int .u8 (x.toNat : Int)] 5)) := by
  refine run_convert_bytes_back (P := Tryd.prog) _ 22 9 5 ⟨W.heap.size, 0, none⟩ 1 [x] Tryd.underlying22 Tryd.underlying5 Tryd.underlying9 ?_
  intro j hj
  have : j = 0 := by simpa using hj
  subst this
  exact (MM.Row.new W 5 [.int .u8 (x.toNat : Int)]).at rfl
end LW
end Go.Proofs.YtbglcdjimipeeaaDoor
