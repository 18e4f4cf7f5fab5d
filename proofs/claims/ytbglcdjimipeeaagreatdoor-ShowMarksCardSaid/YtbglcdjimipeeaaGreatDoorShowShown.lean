/-
  The document's examples of layer 7 come out as the statements' head says. Condition: the numbers' table.
-/
import Derived.Test.YtbglcdjimipeeaaGreatDoorShowCs
import Derived.Test.YtbglcdjimipeeaaGreatDoorShowWordAll
import Derived.Test.YtbglcdjimipeeaaGreatDoorReadCs
import Derived.Test.YtbglcdjimipeeaaGreatDoorArenaMore
namespace Go.Proofs.YtbglcdjimipeeaaGreatDoor
open Go.RowKit
namespace SX
open LX RX
def shN : List Nd := [⟨3, 2, 0, ⟨#[97]⟩, []⟩, ⟨3, 4, 0, quoteB, []⟩, ⟨3, 5, 0, ⟨#[98]⟩, []⟩, ⟨4, 4, 0, emp, [1, 2]⟩, ⟨4, 0, 0, emp, [0, 3]⟩]
theorem sh_read : read ⟨#[40, 32, 97, 32, 39, 98, 32, 32, 41]⟩ = .ok ⟨shN, [4], []⟩ := by kernel_rfl
theorem sh_ok : Ok shN := ⟨by decide, by decide, by decide, by decide, by decide⟩
theorem sh_dt : str (dt shN 4) = ⟨#[40, 97, 32, 39, 98, 41]⟩ := by kernel_rfl
theorem itoa_dig (k : Nat) (h : k < 10) : Lib.itoa k = [UInt8.ofNat (48 + k)] := by
  unfold Lib.itoa
  rw [if_neg (by omega), Int.toNat_natCast, Lib.decDigits, dif_pos h]
def shT : List AP.Th := [⟨1, [8, 16]⟩]
theorem sh_pair : Sh (fun _ => ⟨#[]⟩) (fun _ => false) shT false 1 ([40] ++ Lib.itoa 1 ++ ([32, 46, 32] ++ Lib.itoa 2 ++ [41])) := by
  refine .pair (m := false) (x := 1) (by decide) ?_ ?_
  · exact sh_int _ _ _ 1 (by decide)
  · exact sh_dot _ _ _ 2 (by decide)
theorem sh_word : str (cutX (wrt (fun _ => ⟨#[]⟩) (fun _ => false) shT 122 false [] 1)) = ⟨#[40, 49, 32, 46, 32, 50, 41]⟩ := by
  rw [cut_sh sh_pair, show Lib.itoa 1 = [49] from itoa_dig 1 (by decide), show Lib.itoa 2 = [50] from itoa_dig 2 (by decide)]
  rfl
end SX
namespace SW
open LX RX RW6 SX
theorem text_nil (w : World) (i : Int) : Calls Tryz.prog 97 #[.pointer none, .int .i64 i] w fun e w' => e = .returned (.tuple #[.string ⟨#[]⟩, .bool false]) ∧ MM.Far [] w w' := by
  by_cases hi : i < 0
  all_goals
    go_enter Tryz.func97, Tryz.ntmps97
    go_wp2
    go_ret2
    exact ⟨rfl, MM.Far.refl [] _⟩
theorem nms_nil (w : World) : Nms w (.pointer none) (fun _ => ⟨#[]⟩) (fun _ => false) := ⟨fun _ => Nat.zero_le _, fun wx _ i => text_nil wx i⟩
theorem shown_any (w : World) (hT : Tab w) : Calls Tryz.prog 13 #[] w fun e w' => e = .returned (.bool true) ∧ MM.Far [] w w' := by
  have H := Lib.hid (RC6.read_any ⟨#[40, 32, 97, 32, 39, 98, 32, 32, 41]⟩ (by decide))
  rw [sh_read] at H
  have HT := Lib.hid hT
  clear hT
  go_enter Tryz.func13, Tryz.ntmps13
  go_wp2_with (first
    | (go_at_call 22; refine (H.out _).mono ?_; rintro e w2 ⟨rv, tv, rs, rfl, hD, hrs⟩
       obtain ⟨A, c, hrv, -, -, -, hN⟩ := hD.nodes
       obtain ⟨B, d, htv, -, -, -, hI⟩ := hD.tops_row
       have hlen : rs.length = 5 := by have := congrArg List.length hrs; simpa [shN] using this
       rw [hlen] at hrv
       subst hrv htv
       have HN := Lib.hid (hrs ▸ hN)
       have HI := Lib.hid hI
       have HF := Lib.hid hD.far
       clear hD hN hI hrs hlen)
    | (go_at_call 14; (refine (AW.new_int _ 9 (by omega) (by omega)).mono ?_); rintro e w3 ⟨p, g, h, rfl, hp, hg, hh, hA1, hF1⟩
       have HA1 := Lib.hid hA1
       have HF1 := Lib.hid hF1
       have HPG := Lib.hid (show w2.heap.size ≤ p ∧ w2.heap.size ≤ g ∧ w2.heap.size ≤ h from ⟨hp, hg, hh⟩)
       obtain ⟨b1, o1, rfl, hb1, ca⟩ := (HI.out.far hF1) 0 (by simp)
       simp only [List.getElem_cons_zero, Nat.add_zero] at ca
       have HD := Lib.hid (datum_ok shN (DA := A) (n := 5) (c := c) rfl (by omega) sh_ok (by decide) (by kernel_rfl) w3 (HN.out.far hF1) (HT.out.far (HF.out.trans hF1 (by simp))) 4 (by omega) (by rw [show dt shN 4 = [40, 97, 32, 39, 98, 41] by kernel_rfl]; simp))
       rw [sh_dt] at HD
       clear hA1 hF1 hp hg hh hb1)
    | (go_at_call 10; (refine HD.out.mono ?_); rintro e w4 ⟨rfl, hF4⟩; have HF4 := Lib.hid hF4; clear hF4)
    | (go_at_call 17
       (refine (AW.alloc_to (HA1.out.far (HF4.out.alloc _) (by simp) (by simp) (by simp)) 1 _ 2 2 [8, 16] 1 0 shT rfl (by omega) (AW.u_all _ (by decide)) (by decide) (by decide) rfl (MM.Src.row (MM.Row.new w4 32 [.int .u64 8, .int .u64 16]) (by have h1 := HA1.out.head.lt; have h2 := HA1.out.words.lt; have h3 := HA1.out.kinds.lt; have h4 := HF4.out.size; simp; omega) _ (fun j u hu => hu))).mono ?_)
       rintro e w5 ⟨rfl, hA5, hF5⟩
       have HF5 : Hid (MM.Far [] w w5) := Lib.hid ((((HF.out.trans HF1.out (by simp)).trans HF4.out (by simp)).alloc _).trans hF5 (by
         intro b hb hl
         have h1 := HPG.out
         have h2 := HF.out.size
         simp at hb; omega))
       have HW := Lib.hid (show_any hA5 (nms_nil w5) (HT.out.far HF5.out) 1 (by unfold WP.U; omega))
       rw [sh_word] at HW
       clear hA5 hF5)
    | (go_at_call 20; (refine HW.out.mono ?_); rintro e w6 ⟨rfl, hF6⟩; have HF6 := Lib.hid hF6; clear hF6))
  go_ret
  exact ⟨rfl, HF5.out.trans HF6.out (by simp)⟩
end SW
end Go.Proofs.YtbglcdjimipeeaaGreatDoor
