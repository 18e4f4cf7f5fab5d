/-
  The law's own map of two texts, made and read in whatever order. No condition but sizes.
-/
import Derived.Test.YtbglcdjimipeeaaGreatDoorLexMids
namespace Go.Proofs.YtbglcdjimipeeaaGreatDoor
open Go.RowKit Go.Maps Go.WideShapes
namespace SW
open LX
def vS (s : ByteArray) : DataW Unit := .lit (.string s.data.toList)
def zeroB : ByteArray := ⟨#[48]⟩
/-- What the map holds: nothing; the one text; the other; both. -/
def MD (D : ByteArray) : Nat → DataW Unit
  | 0 => .map []
  | 1 => (DataW.map []).put (.bool true) (vS D)
  | 2 => (DataW.map []).put (.bool false) (vS zeroB)
  | 3 => ((DataW.map []).put (.bool true) (vS D)).put (.bool false) (vS zeroB)
  | _ => ((DataW.map []).put (.bool false) (vS zeroB)).put (.bool true) (vS D)
structure MapAt (w0 : World) (D : ByteArray) (st n : Nat) (W : World) (b : Nat) : Prop where
  own : W.ownsMap Tryz.prog 4 (plainElem (H := Unit) Tryz.prog 9) b n (MD D st)
  few : n ≤ 2
  far : MM.Far [] w0 W
  new : w0.heap.size ≤ b
section
variable {w0 W : World} {D : ByteArray} {st n b : Nat}
theorem MapAt.call {W' : World} (h : MapAt w0 D st n W b) (f : MM.Far [] W W') : MapAt w0 D st n W' b := by
  refine ⟨?_, h.few, h.far.trans f (by simp), h.new⟩
  have hlt := h.own.lt
  obtain ⟨es, clock, hb, F, hs, hD⟩ := h.own
  exact ⟨es, clock, (f.block b hlt (by simp)).trans hb, F, hs, hD⟩
theorem mk_made (f : MM.Far [] w0 W) : ∃ w1 b, (Instr.makeMap 65 none).run Tryz.prog W = .ok (.map (some b)) w1 ∧ MapAt w0 D 0 0 w1 b ∧ MM.Far [] w0 w1 :=
  ⟨_, _, run_makeMap _ W, ⟨World.ownsMap_made W Tryz.prog 4 (plainElem (H := Unit) Tryz.prog 9), by omega, f.alloc _, f.size⟩, f.alloc _⟩
theorem mk_upd (h : MapAt w0 D st n W b) (hn : n ≤ 1) (c : Bool) (s : ByteArray) (hs : s.size ≤ 100) (st' : Nat) (he : (MD D st).put (.bool c) (vS s) = MD D st') : ∃ w1, (Instr.mapUpdate 65 (.map (some b)) (.bool c) (.string s)).run Tryz.prog W = .ok () w1 ∧ MapAt w0 D st' (n + 1) w1 b ∧ MM.Far [] w0 w1 := by
  have K : Maps.Keyed Tryz.prog 4 := Maps.bool_keyed Tryz.underlying4
  obtain ⟨w1, r1, h1, g1⟩ := h.own.update K Tryz.underlying65 (by unfold maxLen; omega) (Maps.keyOf_bool_mk Tryz.underlying4 c) (plainElem_string Tryz.underlying9 (s := s) (by unfold maxLen; omega))
  have F1 : MM.Far [b] W w1 := MM.Far.of_grown g1 (fun x hx _ => by simp at hx; simp [hx])
  have F2 : MM.Far [] w0 w1 := h.far.trans F1 (fun x hx hl => by
    have h1 := h.new
    have h2 : x = b := by simpa using hx
    omega)
  exact ⟨w1, r1, ⟨by rw [← he]; exact h1, by omega, F2, h.new⟩, F2⟩
theorem upd_T0 (hD : D.size ≤ 100) (h : MapAt w0 D 0 0 W b) : ∃ w1, (Instr.mapUpdate 65 (.map (some b)) (.bool true) (.string D)).run Tryz.prog W = .ok () w1 ∧ MapAt w0 D 1 1 w1 b ∧ MM.Far [] w0 w1 := mk_upd h (by omega) true D hD 1 rfl
theorem upd_T2 (hD : D.size ≤ 100) (h : MapAt w0 D 2 1 W b) : ∃ w1, (Instr.mapUpdate 65 (.map (some b)) (.bool true) (.string D)).run Tryz.prog W = .ok () w1 ∧ MapAt w0 D 4 2 w1 b ∧ MM.Far [] w0 w1 := mk_upd h (by omega) true D hD 4 rfl
theorem upd_F0 (h : MapAt w0 D 0 0 W b) : ∃ w1, (Instr.mapUpdate 65 (.map (some b)) (.bool false) (.string ⟨#[48]⟩)).run Tryz.prog W = .ok () w1 ∧ MapAt w0 D 2 1 w1 b ∧ MM.Far [] w0 w1 := mk_upd h (by omega) false _ (by decide) 2 rfl
theorem upd_F1 (h : MapAt w0 D 1 1 W b) : ∃ w1, (Instr.mapUpdate 65 (.map (some b)) (.bool false) (.string ⟨#[48]⟩)).run Tryz.prog W = .ok () w1 ∧ MapAt w0 D 3 2 w1 b ∧ MM.Far [] w0 w1 := mk_upd h (by omega) false _ (by decide) 3 rfl
def pickT (D : ByteArray) (c : Bool) : ByteArray := if c = true then D else zeroB
theorem look_any (h : MapAt w0 D st n W b) (hst : st = 3 ∨ st = 4) (c : Bool) : (Instr.lookup 65 (.map (some b)) (.bool c) false).run Tryz.prog W = .ok (.string (pickT D c)) W := by
  have K : Maps.Keyed Tryz.prog 4 := Maps.bool_keyed Tryz.underlying4
  obtain ⟨v, ps, r3, hv⟩ := h.own.lookup K Tryz.underlying65 (LW.str_zero W) (plainElem_string Tryz.underlying9 (s := ⟨#[]⟩) (by decide)) (Maps.keyOf_bool_mk Tryz.underlying4 c)
  obtain ⟨s, rfl, hs, _⟩ := plainElem_string_inv Tryz.underlying9 hv
  simp only [Prod.mk.injEq] at hs
  have hs := hs.1
  have e : s = pickT D c := by
    have hd : s.data.toList = (pickT D c).data.toList := by
      rcases hst with rfl | rfl
      · cases c with
        | true => exact (Lit.string.inj (DataW.lit.inj (show DataW.lit (H := Unit) (.string D.data.toList) = _ from hs))).symm
        | false => exact (Lit.string.inj (DataW.lit.inj (show DataW.lit (H := Unit) (.string zeroB.data.toList) = _ from hs))).symm
      · cases c with
        | true => exact (Lit.string.inj (DataW.lit.inj (show DataW.lit (H := Unit) (.string D.data.toList) = _ from hs))).symm
        | false => exact (Lit.string.inj (DataW.lit.inj (show DataW.lit (H := Unit) (.string zeroB.data.toList) = _ from hs))).symm
    apply ByteArray.ext
    apply Array.toList_inj.1
    rw [hd]
  rw [e] at r3
  exact r3
theorem look_3 (h : MapAt w0 D 3 n W b) (c : Bool) : (Instr.lookup 65 (.map (some b)) (.bool c) false).run Tryz.prog W = .ok (.string (pickT D c)) W := look_any h (.inl rfl) c
theorem look_4 (h : MapAt w0 D 4 n W b) (c : Bool) : (Instr.lookup 65 (.map (some b)) (.bool c) false).run Tryz.prog W = .ok (.string (pickT D c)) W := look_any h (.inr rfl) c
end
end SW
end Go.Proofs.YtbglcdjimipeeaaGreatDoor
