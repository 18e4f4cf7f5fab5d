/-
  Contract of the code's Datum over a row of data that may be. Conditions: the text's length; its table is as the program lays it.
-/
import Derived.Test.YtbglcdjimipeeaaGreatDoorShowC3
import Derived.Test.YtbglcdjimipeeaaGreatDoorShowC4
import Derived.Test.YtbglcdjimipeeaaGreatDoorReadMays
import Derived.Deep.LoopGhost
namespace Go.Proofs.YtbglcdjimipeeaaGreatDoor
open Go.RowKit
namespace SW
open LX RX RW6 SX
open RC6 (own_off one_far form_ far_app far_app0 own_row)
theorem Pr.start (w : World) (dv : Value) : Pr w (w.alloc (.cells #[dv, .pointer none, .slice none 0 0, .slice none 0 0] 77)) w.heap.size dv [] [] := by
  refine ⟨.pointer none, .slice none 0 0, .slice none 0 0, (MM.Far.refl [] w).alloc _, Nat.le_refl _, MM.Row.new w 77 [dv, .pointer none, .slice none 0 0, .slice none 0 0], .inl rfl, MO.none_ _ _ _ _, MO.none_ _ _ _ _⟩
/-- At the head of Datum's loop: so much work is left. -/
def DatI (w0 : World) (q : Nat) (dv : Value) (ns : List Nd) (D : List UInt8) (k : Nat) (wr : World) : Prop :=
  ∃ T os, Pr w0 wr q dv T os ∧ T ++ restO ns (prs os) = D ∧ szO ns (prs os) = k ∧ Gd w0 ns os
theorem op_len {w0 w : World} {q : Nat} {dv : Value} {T : List UInt8} {os : List Op} (h : Pr w0 w q dv T os) : ∃ A c, w.cell? ⟨q, 3, none⟩ = some (.slice A os.length c) := by
  obtain ⟨pv, bv, ov, h⟩ := h
  obtain ⟨A, c, rfl⟩ := form_ w0 h.op
  exact ⟨A, c, h.head.at (i := 3) rfl⟩
set_option maxHeartbeats 2000000 in
set_option maxRecDepth 20000 in
theorem datum_ok {DA : Option Addr} {n c : Nat} (ns : List Nd) (hn : ns.length = n) (hn2 : n ≤ 100000) (hok : Ok ns) (hll : ∀ x ∈ ns, x.l.length ≤ 100000) (hmay : may (ns.map toI) = true) (w : World) (hN : NdRow w DA ns) (hT0 : Tab w) (i : Nat) (hi : i < n)
    (hlen : (dt ns i).length ≤ 1099511627776) :
    Calls Tryz.prog 10 #[.slice DA n c, .int .i64 (i : Int)] w fun e w' => e = .returned (.tuple #[.string (str (dt ns i)), .int .i64 0]) ∧ MM.Far [] w w' := by
  have HM := Lib.hid (may_yes (ns.map toI) hmay n (by rw [List.length_map]; exact hn) hn2 (fun x hx => by
    obtain ⟨y, hy, rfl⟩ := List.mem_map.1 hx
    unfold toI
    rw [List.length_map]
    exact hll y hy) DA c w (NiRow.of_nd hN))
  have HN := Lib.hid hN
  have HNL := Lib.hid hn
  have HOK := Lib.hid hok
  have HT := Lib.hid hT0
  have HLEN := Lib.hid hlen
  clear hn hok hll hmay hN hT0 hlen
  have hi0 : ¬ ((i : Int) < 0) := by omega
  have hi1 : ¬ ((n : Int) ≤ (i : Int)) := by omega
  go_enter Tryz.func10, Tryz.ntmps10
  go_wp2_with (first
    | (go_at_call 28; (refine HM.out.mono ?_); rintro e w1 ⟨rfl, hF1⟩
       have HF1 := Lib.hid hF1
       have HP0 := Lib.hid (Pr.start w1 (.slice DA n c))
       have HB := Lib.hid (begin_any ns HNL.out HOK.out (HN.out.far hF1) (HT.out.far hF1) i hi HP0.out (fun x hx => by cases hx) (by simpa [prs, restO] using HLEN.out))
       clear hF1)
    | (go_at_call 29; (refine HB.out.mono ?_); rintro e w2 ⟨T2, os2, rfl, hP2, hE2, -, hG2⟩
       have HI2 : Hid (DatI w1 w1.heap.size (.slice DA n c) ns (dt ns i) (szO ns (prs os2)) w2) := Lib.hid ⟨T2, os2, hP2, by rw [hE2]; simp [prs, restO], rfl, hG2⟩
       clear hP2 hE2 hG2))
  generalize szO ns (prs os2) = k0 at HI2
  go_loopg [] k0 (fun k wr => DatI w1 w1.heap.size (.slice DA n c) ns (dt ns i) k wr)
  case atStart => exact HI2.out
  case round =>
    obtain ⟨T, os, hP, hE, hS, hG⟩ := hrel
    obtain ⟨A, oc, c3⟩ := op_len hP
    cases os with
    | nil =>
      have HE : Hid (T = dt ns i) := Lib.hid (by simpa [prs, restO] using hE)
      obtain ⟨pv, bv, ov, hPV⟩ := hP
      have HSt := Lib.hid (string_any hPV)
      clear hE hS hG hPV HI2
      simp only [List.length_nil] at c3
      go_wp2_with (first
        | (go_at_call 31; (refine HSt.out.mono ?_); rintro e w5 ⟨rfl, hF5⟩; have HF5 := Lib.hid hF5; clear hF5))
      go_ret2
      rw [HE.out]
      exact ⟨rfl, HF1.out.trans HF5.out (by simp)⟩
    | cons x os1 =>
      have h1 : (0 : Int) < (os1.length : Int) + 1 := by omega
      rw [List.length_cons] at c3
      have HGO := Lib.hid (goon_any ns HNL.out HOK.out (HN.out.far HF1.out) (HT.out.far HF1.out) x os1 hP hG (by rw [hE]; exact HLEN.out))
      have HE := Lib.hid hE
      have HS := Lib.hid hS
      clear hP hE hS hG HI2
      go_wp2_with (first
        | (go_at_call 30; (refine HGO.out.mono ?_); rintro e w5 ⟨T5, os5, rfl, hP5, hE5, hS5, hG5⟩
           have HP5 := Lib.hid hP5
           have HE5 := Lib.hid hE5
           have HS5 := Lib.hid hS5
           have HG5 := Lib.hid hG5
           clear hP5 hE5 hS5 hG5))
      go_roundg (szO ns (prs os5))
      case measure => have h1 := HS5.out; have h2 := HS.out; omega
      case rel => exact ⟨T5, os5, HP5.out, by rw [HE5.out, HE.out], rfl, HG5.out⟩
end SW
end Go.Proofs.YtbglcdjimipeeaaGreatDoor
