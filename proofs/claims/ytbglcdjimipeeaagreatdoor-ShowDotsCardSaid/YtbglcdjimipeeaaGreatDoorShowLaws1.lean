/-
  P7.2's law of dots. Condition: the numbers' table.
-/
import Derived.Test.YtbglcdjimipeeaaGreatDoorShowShown
import Derived.Test.YtbglcdjimipeeaaGreatDoorShowDigits
namespace Go.Proofs.YtbglcdjimipeeaaGreatDoor
open Go.RowKit
namespace SX
open LX
theorem thou (n : Int) : WP.inR (n.tmod 1000) = true ∧ -1000 < n.tmod 1000 ∧ n.tmod 1000 < 1000 := by
  have h1 : -1000 < n.tmod 1000 ∧ n.tmod 1000 < 1000 := ⟨Int.lt_tmod_of_pos n (by decide), Int.tmod_lt_of_pos n (by decide)⟩
  exact ⟨by rw [WP.inR_iff]; omega, h1⟩
theorem enc_wrap (v : Int) : IntKind.u64.wrap (IntKind.u64.wrap v * 8) = WP.encW v := by
  unfold WP.encW
  simp only [IntKind.wrap, IntKind.signed, IntKind.bits]
  simp
  omega
theorem enc_u (v : Int) : WP.U (WP.encW v) := by
  unfold WP.U WP.encW
  omega
end SX
namespace SW
open LX RX RW6 SX
set_option maxHeartbeats 400000 in
theorem dots_w (n : Int) (w : World) : Calls Tryz.prog 26 #[.int .i64 n] w fun e w' => e = .returned (.int .u64 (WP.encW (n.tmod 1000))) ∧ w = w' := by
  have he := enc_wrap (n.tmod 1000)
  go_enter Tryz.func26, Tryz.ntmps26
  go_wp2
  go_ret
  exact ⟨rfl, rfl⟩
set_option maxHeartbeats 400000 in
theorem dots_d (n : Int) (w : World) : Calls Tryz.prog 27 #[.int .i64 n] w fun e w' => e = .returned (.string (str (Lib.itoa (n.tmod 1000)))) ∧ MM.Far [] w w' := by
  obtain ⟨_, h1, h2⟩ := thou n
  go_enter Tryz.func27, Tryz.ntmps27
  go_wp2_with (go_at_call 25; (refine (digits_any (n.tmod 1000) (by omega) (by omega) _).mono ?_); rintro e w2 ⟨rfl, hF2⟩; have HF2 := Lib.hid hF2; clear hF2)
  go_ret
  exact ⟨rfl, HF2.out⟩
end SW
namespace SX
open LX
/-- The four Pairs. -/
def dT (x y z : Int) : List AP.Th := [⟨1, [WP.encW x, WP.encW y]⟩, ⟨1, [1, WP.encW z]⟩, ⟨1, [WP.encW z, 1]⟩, ⟨1, [1, 2]⟩]
section
variable (x y z : Int) (hx : WP.inR x = true) (hy : WP.inR y = true) (hz : WP.inR z = true)
abbrev noS : Int → ByteArray := fun _ => ⟨#[]⟩
abbrev noB : Int → Bool := fun _ => false
include hx hy
theorem dots_p : Sh noS noB (dT x y z) false 1 ([40] ++ Lib.itoa x ++ ([32, 46, 32] ++ Lib.itoa y ++ [41])) := .pair (m := false) (x := 1) rfl (sh_int _ _ _ x hx) (sh_dot _ _ _ y hy)
theorem dots_s : Sh noS noB (dT x y z) false 73 ([40] ++ ([40] ++ Lib.itoa x ++ ([32, 46, 32] ++ Lib.itoa y ++ [41])) ++ [41]) := .pair (m := false) (x := 73) rfl (dots_p x y z hx hy) (sh_nil _ _ _)
include hz
theorem dots_q : Sh noS noB (dT x y z) false 25 ([40] ++ ([40] ++ Lib.itoa x ++ ([32, 46, 32] ++ Lib.itoa y ++ [41])) ++ ([32, 46, 32] ++ Lib.itoa z ++ [41])) := .pair (m := false) (x := 25) rfl (dots_p x y z hx hy) (sh_dot _ _ _ z hz)
theorem dots_r : Sh noS noB (dT x y z) false 49 ([40] ++ Lib.itoa z ++ ([32] ++ Lib.itoa x ++ ([32, 46, 32] ++ Lib.itoa y ++ [41]))) := .pair (m := false) (x := 49) rfl (sh_int _ _ _ z hz) (.pair (m := true) (x := 1) rfl (sh_int _ _ _ x hx) (sh_dot _ _ _ y hy))
end
theorem cut_few {L : List UInt8} (h : L.length ≤ 120) : cutL L = L := by unfold cutL; rw [if_pos h]
end SX
namespace SW
open LX RX RW6 SX
theorem shown_text {w : World} {p g h n : Nat} {ts : List AP.Th} (hA : AW.Ar w p g h n ts) (hT : Tab w) (x : Int) (hx : WP.U x) {L : List UInt8} (hS : Sh noS noB ts false x L) (hl : L.length ≤ 120) (V : ByteArray) (hV : str L = V) :
    Calls Tryz.prog 20 #[AW.ptr p, .pointer none, .int .u64 x] w fun e w' => e = .returned (.string V) ∧ MM.Far [] w w' := by
  have := show_any hA (nms_nil w) hT x hx
  rw [cut_sh hS, cut_few hl, hV] at this
  exact this
theorem in_three {p g h B : Nat} {W : World} (hB : W.heap.size = B) (h1 : B ≤ p ∧ B ≤ g ∧ B ≤ h) : ∀ b, b ∈ [p, g, h] → b < W.heap.size → b ∈ ([] : List Nat) := by
  intro b hb hl
  simp at hb
  omega
theorem src_two {w0 w : World} {p g h : Nat} (f : MM.Far [] w0 w) (h1 : p < w0.heap.size ∧ g < w0.heap.size ∧ h < w0.heap.size) (a b : Int) : MM.Src (w.alloc (.cells #[.int .u64 a, .int .u64 b] 32)) [p, g, h] (some ⟨w.heap.size, 0, none⟩) (AW.U64s [a, b]) :=
  MM.Src.row (MM.Row.new w 32 [.int .u64 a, .int .u64 b]) (by have := f.size; simp; omega) _ (fun j u hu => hu)
theorem dA1 (x y : Int) : AW.allW 30 [] 1 2 = 1 ∧ AW.allE 30 [] 1 2 = 0 ∧ AW.allT 30 [] 1 [x, y] = [⟨1, [x, y]⟩] := ⟨by kernel_rfl, by kernel_rfl, by kernel_rfl⟩
theorem dA2 (x y z : Int) : AW.allW 30 [⟨1, [x, y]⟩] 1 2 = 25 ∧ AW.allE 30 [⟨1, [x, y]⟩] 1 2 = 0 ∧ AW.allT 30 [⟨1, [x, y]⟩] 1 [1, z] = [⟨1, [x, y]⟩, ⟨1, [1, z]⟩] := ⟨by kernel_rfl, by kernel_rfl, by kernel_rfl⟩
theorem dA3 (x y z : Int) : AW.allW 30 [⟨1, [x, y]⟩, ⟨1, [1, z]⟩] 1 2 = 49 ∧ AW.allE 30 [⟨1, [x, y]⟩, ⟨1, [1, z]⟩] 1 2 = 0 ∧ AW.allT 30 [⟨1, [x, y]⟩, ⟨1, [1, z]⟩] 1 [z, 1] = [⟨1, [x, y]⟩, ⟨1, [1, z]⟩, ⟨1, [z, 1]⟩] := ⟨by kernel_rfl, by kernel_rfl, by kernel_rfl⟩
theorem dA4 (x y z : Int) : AW.allW 30 [⟨1, [x, y]⟩, ⟨1, [1, z]⟩, ⟨1, [z, 1]⟩] 1 2 = 73 ∧ AW.allE 30 [⟨1, [x, y]⟩, ⟨1, [1, z]⟩, ⟨1, [z, 1]⟩] 1 2 = 0 ∧ AW.allT 30 [⟨1, [x, y]⟩, ⟨1, [1, z]⟩, ⟨1, [z, 1]⟩] 1 [1, 2] = [⟨1, [x, y]⟩, ⟨1, [1, z]⟩, ⟨1, [z, 1]⟩, ⟨1, [1, 2]⟩] := ⟨by kernel_rfl, by kernel_rfl, by kernel_rfl⟩
theorem alloc_two {w : World} {p g h n : Nat} {T : List AP.Th} (hA : AW.Ar w p g h n T) (a b W E : Int) (T' : List AP.Th) (ha : WP.U a) (hb : WP.U b) (hW : AW.allW n T 1 2 = W) (hE : AW.allE n T 1 2 = E) (hT : AW.allT n T 1 [a, b] = T') :
    Calls Tryz.prog 17 #[AW.ptr p, .int .i64 1, .slice (some ⟨w.heap.size, 0, none⟩) 2 2] (w.alloc (.cells #[.int .u64 a, .int .u64 b] 32)) fun e w' => e = .returned (.tuple #[.int .u64 W, .int .i64 E]) ∧ AW.Ar w' p g h n T' ∧ MM.Far [p, g, h] w w' := by
  refine (AW.alloc_to (hA.far ((MM.Far.refl [] w).alloc _) (by simp) (by simp) (by simp)) 1 _ 2 2 [a, b] W E T' rfl (by omega) (fun x hx => ?_) hW hE hT (src_two (MM.Far.refl [] w) ⟨hA.head.lt, hA.words.lt, hA.kinds.lt⟩ a b)).mono ?_
  · simp only [List.mem_cons, List.not_mem_nil, or_false] at hx
    rcases hx with rfl | rfl
    · exact ha
    · exact hb
  · rintro e w' ⟨he, h1, h2⟩
    exact ⟨he, h1, ((MM.Far.refl [p, g, h] w).alloc _).trans h2 (fun _ h _ => h)⟩
set_option maxHeartbeats 2000000 in
set_option maxRecDepth 20000 in
theorem dots_law (x y z : Int) (W : World) (hT : Tab W) : Calls Tryz.prog 9 #[.int .i64 x, .int .i64 y, .int .i64 z] W fun e w' => e = .returned (.bool true) ∧ Below W.heap.size W w' := by
  obtain ⟨ix, x1, x2⟩ := thou x
  obtain ⟨iy, y1, y2⟩ := thou y
  obtain ⟨iz, z1, z2⟩ := thou z
  have HS := Lib.hid (shown_any W hT)
  have HT := Lib.hid hT
  have HWX := Lib.hid (fun (w : World) => dots_w x w)
  have HWY := Lib.hid (fun (w : World) => dots_w y w)
  have HWZ := Lib.hid (fun (w : World) => dots_w z w)
  have HDX := Lib.hid (fun (w : World) => dots_d x w)
  have HDY := Lib.hid (fun (w : World) => dots_d y w)
  have HDZ := Lib.hid (fun (w : World) => dots_d z w)
  generalize x.tmod 1000 = X at *
  generalize y.tmod 1000 = Y at *
  generalize z.tmod 1000 = Z at *
  have lx := Lib.itoa_length_le X (by omega) (by omega)
  have ly := Lib.itoa_length_le Y (by omega) (by omega)
  have lz := Lib.itoa_length_le Z (by omega) (by omega)
  have sx : (str (Lib.itoa X)).size ≤ 21 := lx
  have sy : (str (Lib.itoa Y)).size ≤ 21 := ly
  have sz : (str (Lib.itoa Z)).size ≤ 21 := lz
  have HP := Lib.hid (fun (w : World) (p g h : Nat) (hA : AW.Ar w p g h 30 (dT X Y Z)) (hT : Tab w) => shown_text hA hT 1 (by unfold WP.U; omega) (dots_p X Y Z ix iy) (by simp only [List.length_append, List.length_cons, List.length_nil]; omega) (⟨#[40]⟩ ++ str (Lib.itoa X) ++ ⟨#[32, 46, 32]⟩ ++ str (Lib.itoa Y) ++ ⟨#[41]⟩) (by apply ByteArray.ext; simp [str, ByteArray.data_append]))
  have HQ := Lib.hid (fun (w : World) (p g h : Nat) (hA : AW.Ar w p g h 30 (dT X Y Z)) (hT : Tab w) => shown_text hA hT 25 (by unfold WP.U; omega) (dots_q X Y Z ix iy iz) (by simp only [List.length_append, List.length_cons, List.length_nil]; omega) (⟨#[40, 40]⟩ ++ str (Lib.itoa X) ++ ⟨#[32, 46, 32]⟩ ++ str (Lib.itoa Y) ++ ⟨#[41, 32, 46, 32]⟩ ++ str (Lib.itoa Z) ++ ⟨#[41]⟩) (by apply ByteArray.ext; simp [str, ByteArray.data_append]))
  have HR := Lib.hid (fun (w : World) (p g h : Nat) (hA : AW.Ar w p g h 30 (dT X Y Z)) (hT : Tab w) => shown_text hA hT 49 (by unfold WP.U; omega) (dots_r X Y Z ix iy iz) (by simp only [List.length_append, List.length_cons, List.length_nil]; omega) (⟨#[40]⟩ ++ str (Lib.itoa Z) ++ ⟨#[32]⟩ ++ str (Lib.itoa X) ++ ⟨#[32, 46, 32]⟩ ++ str (Lib.itoa Y) ++ ⟨#[41]⟩) (by apply ByteArray.ext; simp [str, ByteArray.data_append]))
  have HZ := Lib.hid (fun (w : World) (p g h : Nat) (hA : AW.Ar w p g h 30 (dT X Y Z)) (hT : Tab w) => shown_text hA hT 73 (by unfold WP.U; omega) (dots_s X Y Z ix iy) (by simp only [List.length_append, List.length_cons, List.length_nil]; omega) (⟨#[40, 40]⟩ ++ str (Lib.itoa X) ++ ⟨#[32, 46, 32]⟩ ++ str (Lib.itoa Y) ++ ⟨#[41, 41]⟩) (by apply ByteArray.ext; simp [str, ByteArray.data_append]))
  have ux := enc_u X
  have uy := enc_u Y
  have uz := enc_u Z
  have HUU : Hid (WP.U (WP.encW X) ∧ WP.U (WP.encW Y) ∧ WP.U (WP.encW Z)) := Lib.hid ⟨ux, uy, uz⟩
  unfold dT at HP HQ HR HZ
  generalize str (Lib.itoa X) = dx at *
  generalize str (Lib.itoa Y) = dy at *
  generalize str (Lib.itoa Z) = dz at *
  generalize WP.encW X = ex at *
  generalize WP.encW Y = ey at *
  generalize WP.encW Z = ez at *
  have HU1 : Hid (WP.U 1 ∧ WP.U 2) := Lib.hid ⟨by unfold WP.U; omega, by unfold WP.U; omega⟩
  clear ix iy iz x1 x2 y1 y2 z1 z2 lx ly lz ux uy uz hT
  go_enter Tryz.func9, Tryz.ntmps9
  go_wp2_with (first
    | (go_at_call 13; (with_reducible refine HS.out.mono ?_); rintro e w0 ⟨rfl, hF0⟩; have HF0 := Lib.hid hF0; clear hF0)
    | (go_at_call 14; (refine (AW.new_int _ 30 (by omega) (by omega)).mono ?_); rintro e w1 ⟨p, g, h, rfl, hp, hg, hh, hA1, hF1⟩
       have HA1 := Lib.hid (show AW.Ar w1 p g h 30 [] from hA1)
       have HF1 := Lib.hid (HF0.out.trans hF1 (by simp))
       have HPG := Lib.hid (show (W.heap.size ≤ p ∧ W.heap.size ≤ g ∧ W.heap.size ≤ h) ∧ p < w1.heap.size ∧ g < w1.heap.size ∧ h < w1.heap.size from ⟨by have := HF0.out.size; omega, hA1.head.lt, hA1.words.lt, hA1.kinds.lt⟩)
       have HI3 := Lib.hid (in_three (W := W) rfl HPG.out.1)
       clear hA1 hF1 hp hg hh)
    | (go_at_call 26; (with_reducible refine (HWX.out _).mono ?_); rintro e w' ⟨rfl, rfl⟩)
    | (go_at_call 26; (with_reducible refine (HWY.out _).mono ?_); rintro e w' ⟨rfl, rfl⟩)
    | (go_at_call 26; (with_reducible refine (HWZ.out _).mono ?_); rintro e w' ⟨rfl, rfl⟩)
    | (go_at_call 17; ((with_reducible refine (alloc_two HA1.out ex ey 1 0 [⟨1, [ex, ey]⟩] HUU.out.1 HUU.out.2.1 (dA1 ex ey).1 (dA1 ex ey).2.1 (dA1 ex ey).2.2).mono ?_); rintro e w2 ⟨rfl, hA2, hF2⟩)
       have HA2 := Lib.hid hA2
       have HF2 := Lib.hid (HF1.out.trans hF2 HI3.out)
       clear hA2 hF2)
    | (go_at_call 17; ((with_reducible refine (alloc_two HA2.out 1 ez 25 0 [⟨1, [ex, ey]⟩, ⟨1, [1, ez]⟩] HU1.out.1 HUU.out.2.2 (dA2 ex ey ez).1 (dA2 ex ey ez).2.1 (dA2 ex ey ez).2.2).mono ?_); rintro e w3 ⟨rfl, hA3, hF3⟩)
       have HA3 := Lib.hid hA3
       have HF3 := Lib.hid (HF2.out.trans hF3 HI3.out)
       clear hA3 hF3)
    | (go_at_call 17; ((with_reducible refine (alloc_two HA3.out ez 1 49 0 [⟨1, [ex, ey]⟩, ⟨1, [1, ez]⟩, ⟨1, [ez, 1]⟩] HUU.out.2.2 HU1.out.1 (dA3 ex ey ez).1 (dA3 ex ey ez).2.1 (dA3 ex ey ez).2.2).mono ?_); rintro e w4 ⟨rfl, hA4, hF4⟩)
       have HA4 := Lib.hid hA4
       have HF4 := Lib.hid (HF3.out.trans hF4 HI3.out)
       clear hA4 hF4)
    | (go_at_call 17; ((with_reducible refine (alloc_two HA4.out 1 2 73 0 [⟨1, [ex, ey]⟩, ⟨1, [1, ez]⟩, ⟨1, [ez, 1]⟩, ⟨1, [1, 2]⟩] HU1.out.1 HU1.out.2 (dA4 ex ey ez).1 (dA4 ex ey ez).2.1 (dA4 ex ey ez).2.2).mono ?_); rintro e w5 ⟨rfl, hA5, hF5⟩)
       have HA5 := Lib.hid hA5
       have HF5 := Lib.hid (HF4.out.trans hF5 HI3.out)
       clear hA5 hF5)
    | (go_at_call 20; ((with_reducible refine (HP.out _ _ _ _ (HA5.out.far (MM.Far.refl [] w5) (by simp) (by simp) (by simp)) (HT.out.far (HF5.out.trans (MM.Far.refl [] w5) (by simp)))).mono ?_); rintro e w6 ⟨rfl, hF6⟩); have HG6 := Lib.hid ((MM.Far.refl [] w5).trans hF6 (by simp)); clear hF6)
    | (go_at_call 27; ((with_reducible refine (HDX.out _).mono ?_); rintro e w7 ⟨rfl, hF7⟩); have HG7 := Lib.hid (HG6.out.trans hF7 (by simp)); clear hF7)
    | (go_at_call 27; ((with_reducible refine (HDY.out _).mono ?_); rintro e w8 ⟨rfl, hF8⟩); have HG8 := Lib.hid (HG7.out.trans hF8 (by simp)); clear hF8)
    | (go_at_call 20; ((with_reducible refine (HQ.out _ _ _ _ (HA5.out.far HG8.out (by simp) (by simp) (by simp)) (HT.out.far (HF5.out.trans HG8.out (by simp)))).mono ?_); rintro e w9 ⟨rfl, hF9⟩); have HG9 := Lib.hid (HG8.out.trans hF9 (by simp)); clear hF9)
    | (go_at_call 27; ((with_reducible refine (HDX.out _).mono ?_); rintro e w10 ⟨rfl, hF10⟩); have HG10 := Lib.hid (HG9.out.trans hF10 (by simp)); clear hF10)
    | (go_at_call 27; ((with_reducible refine (HDY.out _).mono ?_); rintro e w11 ⟨rfl, hF11⟩); have HG11 := Lib.hid (HG10.out.trans hF11 (by simp)); clear hF11)
    | (go_at_call 27; ((with_reducible refine (HDZ.out _).mono ?_); rintro e w12 ⟨rfl, hF12⟩); have HG12 := Lib.hid (HG11.out.trans hF12 (by simp)); clear hF12)
    | (go_at_call 20; ((with_reducible refine (HR.out _ _ _ _ (HA5.out.far HG12.out (by simp) (by simp) (by simp)) (HT.out.far (HF5.out.trans HG12.out (by simp)))).mono ?_); rintro e w13 ⟨rfl, hF13⟩); have HG13 := Lib.hid (HG12.out.trans hF13 (by simp)); clear hF13)
    | (go_at_call 27; ((with_reducible refine (HDZ.out _).mono ?_); rintro e w14 ⟨rfl, hF14⟩); have HG14 := Lib.hid (HG13.out.trans hF14 (by simp)); clear hF14)
    | (go_at_call 27; ((with_reducible refine (HDX.out _).mono ?_); rintro e w15 ⟨rfl, hF15⟩); have HG15 := Lib.hid (HG14.out.trans hF15 (by simp)); clear hF15)
    | (go_at_call 27; ((with_reducible refine (HDY.out _).mono ?_); rintro e w16 ⟨rfl, hF16⟩); have HG16 := Lib.hid (HG15.out.trans hF16 (by simp)); clear hF16)
    | (go_at_call 20; ((with_reducible refine (HZ.out _ _ _ _ (HA5.out.far HG16.out (by simp) (by simp) (by simp)) (HT.out.far (HF5.out.trans HG16.out (by simp)))).mono ?_); rintro e w17 ⟨rfl, hF17⟩); have HG17 := Lib.hid (HG16.out.trans hF17 (by simp)); clear hF17)
    | (go_at_call 27; ((with_reducible refine (HDX.out _).mono ?_); rintro e w18 ⟨rfl, hF18⟩); have HG18 := Lib.hid (HG17.out.trans hF18 (by simp)); clear hF18)
    | (go_at_call 27; ((with_reducible refine (HDY.out _).mono ?_); rintro e w19 ⟨rfl, hF19⟩); have HG19 := Lib.hid (HG18.out.trans hF19 (by simp)); clear hF19))
  go_ret
  exact ⟨rfl, (HF5.out.trans HG19.out (by simp)).below_nil⟩
end SW
end Go.Proofs.YtbglcdjimipeeaaGreatDoor
