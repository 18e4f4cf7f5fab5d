/-
  P7.2's law of marks: words of each kind are shown by their signs. Condition: the numbers' table.
-/
import Derived.Test.YtbglcdjimipeeaaGreatDoorShowLawKit
import Derived.Test.YtbglcdjimipeeaaGreatDoorShowMap
import Derived.Test.YtbglcdjimipeeaaGreatDoorShowDraw
import Derived.Test.YtbglcdjimipeeaaGreatDoorShowMarksP
import Derived.Test.YtbglcdjimipeeaaGreatDoorNamesLaws1
import Derived.Deep.RegionHeld3
import Derived.Deep.DeepCutAuto
import Derived.IntWalk
namespace Go.Proofs.YtbglcdjimipeeaaGreatDoor
open Go.RowKit
set_option linter.unusedVariables false
namespace SW
open LX RX RW6 SX
theorem all_one (m : Nat) (h : m < 8) : AW.allW 20 [] ((m : Int) + 2) 1 = 1 ∧ AW.allE 20 [] ((m : Int) + 2) 1 = 0 ∧ AW.allT 20 [] ((m : Int) + 2) [0] = [⟨(m : Int) + 2, [0]⟩] := by
  have hE : AW.allE 20 [] ((m : Int) + 2) 1 = 0 := by
    unfold AW.allE
    rw [if_neg (by omega), if_neg (by decide)]
  refine ⟨?_, hE, ?_⟩
  · unfold AW.allW
    rw [if_pos hE]
    decide
  · unfold AW.allT
    rw [if_pos (show AW.allE 20 [] ((m : Int) + 2) [(0 : Int)].length = 0 from hE)]
    rfl
theorem alloc_one {w : World} {p g h n : Nat} {T : List AP.Th} (hA : AW.Ar w p g h n T) (k a W E : Int) (T' : List AP.Th) (ha : WP.U a) (hW : AW.allW n T k 1 = W) (hE : AW.allE n T k 1 = E) (hT : AW.allT n T k [a] = T') :
    Calls Tryz.prog 17 #[AW.ptr p, .int .i64 k, .slice (some ⟨w.heap.size, 0, none⟩) 1 1] (w.alloc (.cells #[.int .u64 a] 32)) fun e w' => e = .returned (.tuple #[.int .u64 W, .int .i64 E]) ∧ AW.Ar w' p g h n T' ∧ MM.Far [p, g, h] w w' := by
  refine (AW.alloc_to (hA.far ((MM.Far.refl [] w).alloc _) (by simp) (by simp) (by simp)) k _ 1 1 [a] W E T' rfl (by omega) (fun x hx => ?_) hW hE hT (MM.Src.row (MM.Row.new w 32 [.int .u64 a]) (by have h1 := hA.head.lt; have h2 := hA.words.lt; have h3 := hA.kinds.lt; simp; omega) _ (fun j u hu => hu))).mono ?_
  · simp only [List.mem_cons, List.not_mem_nil, or_false] at hx
    subst hx
    exact ha
  · rintro e w' ⟨he, h1, h2⟩
    exact ⟨he, h1, ((MM.Far.refl [p, g, h] w).alloc _).trans h2 (fun _ h _ => h)⟩
theorem wrap_small {x : Int} (h1 : -1000000 ≤ x) (h2 : x ≤ 1000000) : IntKind.i64.wrap x = x := by
  simp only [IntKind.wrap, IntKind.signed, IntKind.bits]
  simp
  omega
theorem word_pv {w : World} {p g h n gn : Nat} {S : List Nat} {mv sv : Value} {k m : Nat} (hk : k < 1000) (hm : m < 8) (hA : AW.Ar w p g h n (mT m)) (hN : NW.Nm w gn S [nameB] mv sv) (hT : Tab w) (x : Int × ByteArray) (hx : x ∈ PV k m) :
    Calls Tryz.prog 20 #[AW.ptr p, NW.ptr gn, .int .u64 x.1] w fun e w' => e = .returned (.string x.2) ∧ MM.Far [] w w' := by
  obtain ⟨h1, h2, h3⟩ := pv_ok k m hk hm x hx
  have h4 := pv_small k m hk hm x hx
  have := show_any hA (nms_of7 hN) hT x.1 h1
  rw [cut_sh (.sing h2), cut_few (by
    have e : (str (sg (NP.textS [nameB]) (NP.textB [nameB]) (mT m) x.1)).size = (sg (NP.textS [nameB]) (NP.textB [nameB]) (mT m) x.1).length := rfl
    rw [h3] at e
    omega), h3] at this
  exact this
set_option maxHeartbeats 8000000 in
set_option maxRecDepth 20000 in
theorem marks_law (n kk : Nat) (hn : n < 65536) (hk : kk < 256) (w : World) (hT : Tab w) :
    Calls Tryz.prog 8 #[.int .u16 (n : Int), .int .u8 (kk : Int)] w fun e w' => e = .returned (.bool true) ∧ Below w.heap.size w w' := by
  have HS := Lib.hid (shown_any w hT)
  have HT := Lib.hid hT
  obtain ⟨k, hkk⟩ : ∃ k, n % 1000 = k := ⟨_, rfl⟩
  obtain ⟨m, hmm⟩ : ∃ m, kk % 8 = m := ⟨_, rfl⟩
  have hk1 : k < 1000 := by omega
  have hm8 : m < 8 := by omega
  have q1 : (n : Int).tmod 1000 = (k : Int) := by rw [Int.tmod_eq_emod_of_nonneg (by omega)]; omega
  have q2 : (kk : Int).tmod 8 = (m : Int) := by rw [Int.tmod_eq_emod_of_nonneg (by omega)]; omega
  have q3 : (n : Int) % 1000 = (k : Int) := by omega
  have q4 : (kk : Int) % 8 = (m : Int) := by omega
  have HDK := Lib.hid (fun (wx : World) => digits_any (k : Int) (by omega) (by omega) wx)
  have HDK1 := Lib.hid (fun (wx : World) => digits_any ((k : Int) + 1) (by omega) (by omega) wx)
  have HDM := Lib.hid (fun (wx : World) => digits_any ((m : Int) + 2) (by omega) (by omega) wx)
  clear hT hkk hmm
  go_enter Tryz.func8, Tryz.ntmps8
  go_upto_region 12 with (first
    | (go_at_call 13; (with_reducible refine HS.out.mono ?_); rintro e w0 ⟨rfl, hF0⟩; have HF0 := Lib.hid hF0; clear hF0)
    | (go_at_call 14; (refine (AW.new_int _ 20 (by omega) (by omega)).mono ?_); rintro e w1 ⟨p, g, h, rfl, hp, hg, hh, hA1, hF1⟩
       have HA1 := Lib.hid (show AW.Ar w1 p g h 20 [] from hA1)
       have HF1 := Lib.hid (HF0.out.trans hF1 (by simp))
       have HPG := Lib.hid (show (w.heap.size ≤ p ∧ w.heap.size ≤ g ∧ w.heap.size ≤ h) ∧ p < w1.heap.size ∧ g < w1.heap.size ∧ h < w1.heap.size from ⟨by have := HF0.out.size; omega, hA1.head.lt, hA1.words.lt, hA1.kinds.lt⟩)
       clear hA1 hF1 hp hg hh)
    | (go_at_call 16; (refine (NW.new_any _).mono ?_); rintro e w3 ⟨gn, rfl, hgn, hN3, hF3⟩
       have HF3 := Lib.hid hF3
       have HN3 := Lib.hid hN3
       have HGN := Lib.hid hgn
       clear hF3 hN3 hgn)
    | (go_at_call 25; ((with_reducible refine (HDK.out _).mono ?_); rintro e w4 ⟨rfl, hF4⟩); have HF4 := Lib.hid hF4; clear hF4)
    | (go_at_call 17; ((with_reducible refine HAL.out.mono ?_); rintro e w6 ⟨rfl, hA6, hF6⟩); have HA6 := Lib.hid hA6; have HF6 := Lib.hid hF6; clear hA6 hF6)
    | (go_at_call 19; ((refine (NW.put_to (HN3.out.nil HF4.out) nameB (by decide) 0 0 [nameB] (by decide) (by decide) (by decide)).mono ?_); rintro e w5 ⟨rfl, S5, mv5, sv5, hN5, hF5, hS5⟩); have HN5 := Lib.hid hN5; have HF5 := Lib.hid hF5; have HS5 := Lib.hid hS5
       have HGA := Lib.hid (show gn ≠ p ∧ gn ≠ g ∧ gn ≠ h from by have h1 := HPG.out.2; have h2 := HGN.out; omega)
       have HAL := Lib.hid (alloc_one (((HA1.out.far HF3.out (by simp) (by simp) (by simp)).far HF4.out (by simp) (by simp) (by simp)).far HF5.out (by have := HGA.out; simp; omega) (by have := HGA.out; simp; omega) (by have := HGA.out; simp; omega)) ((m : Int) + 2) 0 1 0 [⟨(m : Int) + 2, [0]⟩] (by unfold WP.U; omega) (all_one m hm8).1 (all_one m hm8).2.1 (all_one m hm8).2.2)
       clear hN5 hF5 hS5))
  have hd22 := hsz_itoa (k : Int) (by omega) (by omega)
  have hd23 := hsz_itoa ((k : Int) + 1) (by omega) (by omega)
  have hd24 := hsz_itoa ((m : Int) + 2) (by omega) (by omega)
  obtain ⟨dk, hdk⟩ : ∃ dk, str (Lib.itoa (k : Int)) = dk := ⟨_, rfl⟩
  obtain ⟨dk1, hdk1⟩ : ∃ dk1, str (Lib.itoa ((k : Int) + 1)) = dk1 := ⟨_, rfl⟩
  obtain ⟨dm, hdm⟩ : ∃ dm, str (Lib.itoa ((m : Int) + 2)) = dm := ⟨_, rfl⟩
  rw [hdk] at hd22 ⊢
  rw [hdk1] at hd23 HDK1
  rw [hdm] at hd24 HDM
  have HDE := Lib.hid (And.intro hdk (And.intro hdk1 hdm))
  obtain ⟨dn, hdn⟩ : ∃ dn, (⟨#[45]⟩ : ByteArray) ++ dk = dn := ⟨_, rfl⟩
  have hdn100 : dn.size ≤ 100 := by rw [← hdn, ByteArray.size_append]; show 1 + dk.size ≤ 100; omega
  have HRP := Lib.hid (show RAW k dk dk1 dm dn = pc (PV k m) by rw [← hdn, ← hdk, ← hdk1, ← hdm]; exact raw_pc k m hk1)
  clear hdk hdk1 hdm HDK
  go_cut [117, 118, 119] (fun s117 s118 s119 wx => ∃ bl, s117 = .slice (some ⟨bl, 0, none⟩) 12 12 ∧ s118 = .int .i64 12 ∧ s119 = .int .i64 0 ∧ Hid (MM.Row wx bl 64 (pc (PV k m)) ∧ MM.Far [] w6 wx))
  case first =>
    have hFr := ((MM.Far.refl [] w6).drew)
    clear HF0 HA1 HF1 HPG HF3 HN3 HGN HF4 HN5 HF5 HS5 HGA HAL HF6 HS HT HDE
    have hcat1 : ¬ (9223372036854775807 < 1 + dk.size) := by omega
    have hcat2 : ¬ (9223372036854775807 < 2 + dk.size) := by omega
    have hcat3 : ¬ (9223372036854775807 < 2 + dk1.size) := by omega
    have hcat4 : ¬ (9223372036854775807 < 1 + dm.size) := by omega
    have hwk : IntKind.i64.wrap ((k : Int) + 1) = (k : Int) + 1 := wrap_small (by omega) (by omega)
    have hwk5 : IntKind.i64.wrap ((k : Int) + 5) = (k : Int) + 5 := wrap_small (by omega) (by omega)
    have hwm : IntKind.i64.wrap (m : Int) = (m : Int) := wrap_small (by omega) (by omega)
    have hwm2 : IntKind.i64.wrap ((m : Int) + 2) = (m : Int) + 2 := wrap_small (by omega) (by omega)
    refine wp_region_R (by kernel_rfl) ?_
    refine wpAnyR_take (i := 0) (oi := { dst := some 59, op := Op.move (Operand.tmp 9), type := 3, pos := "law.go:190", after := #[], guard := none }) (v := ?v1) rfl (by kernel_rfl) (by kernel_rfl) (by kernel_rfl) (fun _ _ _ h => h) (by rfl) ?hy1 ?rest1
    case hy1 => (intro w; go_simp; try (with_reducible rfl))
    try simp only [Act.put, List.setIfInBounds_toArray, List.set_cons_zero, List.set_cons_succ]
    refine wpAnyR_take (i := 1) (oi := { dst := some 60, op := Op.convert 3 32 (Operand.tmp 59), type := 32, pos := "law.go:190", after := #[{ on := 0, ground := Ground.data }], guard := none }) (v := ?v2) rfl (by kernel_rfl) (by kernel_rfl) (by kernel_rfl) (fun _ _ _ h => h) (by rfl) ?hy2 ?rest2
    case hy2 => (intro w; go_simp; try (with_reducible rfl))
    try simp only [Act.put, List.setIfInBounds_toArray, List.set_cons_zero, List.set_cons_succ]
    refine wpAnyR_take (i := 2) (oi := { dst := some 61, op := Op.binOp BinOp.shl 32 (Operand.tmp 60) (Operand.const (Value.int IntKind.u64 3)) 60, type := 32, pos := "law.go:190", after := #[{ on := 1, ground := Ground.data }], guard := none }) (v := ?v3) rfl (by kernel_rfl) (by kernel_rfl) (by kernel_rfl) (fun _ _ _ h => h) (by rfl) ?hy3 ?rest3
    case hy3 => (intro w; go_simp; try (with_reducible rfl))
    try simp only [Act.put, List.setIfInBounds_toArray, List.set_cons_zero, List.set_cons_succ]
    refine wpAnyR_take (i := 3) (oi := { dst := some 62, op := Op.move (Operand.tmp 10), type := 9, pos := "law.go:190", after := #[], guard := none }) (v := ?v4) rfl (by kernel_rfl) (by kernel_rfl) (by kernel_rfl) (fun _ _ _ h => h) (by rfl) ?hy4 ?rest4
    case hy4 => (intro w; go_simp; try (with_reducible rfl))
    try simp only [Act.put, List.setIfInBounds_toArray, List.set_cons_zero, List.set_cons_succ]
    refine wpAnyR_take (i := 4) (oi := { dst := some 63, op := Op.build 64 #[(0, Operand.tmp 61), (1, Operand.tmp 62)], type := 64, pos := "law.go:190", after := #[{ on := 2, ground := Ground.data }, { on := 3, ground := Ground.data }], guard := none }) (v := ?v5) rfl (by kernel_rfl) (by kernel_rfl) (by kernel_rfl) (fun _ _ _ h => h) (by rfl) ?hy5 ?rest5
    case hy5 => (intro w; go_simp; try (with_reducible rfl))
    try simp only [Act.put, List.setIfInBounds_toArray, List.set_cons_zero, List.set_cons_succ]
    refine wpAnyR_take (i := 5) (oi := { dst := some 64, op := Op.move (Operand.tmp 9), type := 3, pos := "law.go:190", after := #[], guard := none }) (v := ?v6) rfl (by kernel_rfl) (by kernel_rfl) (by kernel_rfl) (fun _ _ _ h => h) (by rfl) ?hy6 ?rest6
    case hy6 => (intro w; go_simp; try (with_reducible rfl))
    try simp only [Act.put, List.setIfInBounds_toArray, List.set_cons_zero, List.set_cons_succ]
    refine wpAnyR_take (i := 6) (oi := { dst := some 65, op := Op.convert 3 32 (Operand.tmp 64), type := 32, pos := "law.go:190", after := #[{ on := 5, ground := Ground.data }], guard := none }) (v := ?v7) rfl (by kernel_rfl) (by kernel_rfl) (by kernel_rfl) (fun _ _ _ h => h) (by rfl) ?hy7 ?rest7
    case hy7 => (intro w; go_simp; try (with_reducible rfl))
    try simp only [Act.put, List.setIfInBounds_toArray, List.set_cons_zero, List.set_cons_succ]
    refine wpAnyR_take (i := 7) (oi := { dst := some 66, op := Op.unOp UnOp.neg 32 (Operand.tmp 65), type := 32, pos := "law.go:190", after := #[{ on := 6, ground := Ground.data }], guard := none }) (v := ?v8) rfl (by kernel_rfl) (by kernel_rfl) (by kernel_rfl) (fun _ _ _ h => h) (by rfl) ?hy8 ?rest8
    case hy8 => (intro w; go_simp; try (with_reducible rfl))
    try simp only [Act.put, List.setIfInBounds_toArray, List.set_cons_zero, List.set_cons_succ]
    refine wpAnyR_take (i := 8) (oi := { dst := some 67, op := Op.binOp BinOp.shl 32 (Operand.tmp 66) (Operand.const (Value.int IntKind.u64 3)) 60, type := 32, pos := "law.go:190", after := #[{ on := 7, ground := Ground.data }], guard := none }) (v := ?v9) rfl (by kernel_rfl) (by kernel_rfl) (by kernel_rfl) (fun _ _ _ h => h) (by rfl) ?hy9 ?rest9
    case hy9 => (intro w; go_simp; try (with_reducible rfl))
    try simp only [Act.put, List.setIfInBounds_toArray, List.set_cons_zero, List.set_cons_succ]
    refine wpAnyR_take (i := 10) (oi := { dst := some 69, op := Op.move (Operand.tmp 10), type := 9, pos := "law.go:190", after := #[], guard := none }) (v := ?v10) rfl (by kernel_rfl) (by kernel_rfl) (by kernel_rfl) (fun _ _ _ h => h) (by rfl) ?hy10 ?rest10
    case hy10 => (intro w; go_simp; try (with_reducible rfl))
    try simp only [Act.put, List.setIfInBounds_toArray, List.set_cons_zero, List.set_cons_succ]
    refine wpAnyR_take (i := 11) (oi := { dst := some 70, op := Op.binOp BinOp.add 9 (Operand.const (Value.string { data := #[45] })) (Operand.tmp 69) 9, type := 9, pos := "law.go:190", after := #[{ on := 10, ground := Ground.data }], guard := none }) (v := ?v11) rfl (by kernel_rfl) (by kernel_rfl) (by kernel_rfl) (fun _ _ _ h => h) (by rfl) ?hy11 ?rest11
    case hy11 => (intro w; go_simp; try (with_reducible rfl))
    try simp only [Act.put, List.setIfInBounds_toArray, List.set_cons_zero, List.set_cons_succ]
    refine wpAnyR_take (i := 15) (oi := { dst := some 72, op := Op.move (Operand.tmp 9), type := 3, pos := "law.go:190", after := #[], guard := none }) (v := ?v12) rfl (by kernel_rfl) (by kernel_rfl) (by kernel_rfl) (fun _ _ _ h => h) (by rfl) ?hy12 ?rest12
    case hy12 => (intro w; go_simp; try (with_reducible rfl))
    try simp only [Act.put, List.setIfInBounds_toArray, List.set_cons_zero, List.set_cons_succ]
    refine wpAnyR_take (i := 16) (oi := { dst := some 73, op := Op.binOp BinOp.gtr 3 (Operand.tmp 72) (Operand.const (Value.int IntKind.i64 0)) 3, type := 4, pos := "law.go:190", after := #[{ on := 15, ground := Ground.data }], guard := none }) (v := ?v13) rfl (by kernel_rfl) (by kernel_rfl) (by kernel_rfl) (fun _ _ _ h => h) (by rfl) ?hy13 ?rest13
    case hy13 => (intro w; go_simp; try (with_reducible rfl))
    try simp only [Act.put, List.setIfInBounds_toArray, List.set_cons_zero, List.set_cons_succ]
    refine wpAnyR_take (i := 19) (oi := { dst := some 76, op := Op.build 64 #[(0, Operand.const (Value.int IntKind.u64 2)), (1, Operand.const (Value.string { data := #[40, 41] }))], type := 64, pos := "law.go:190", after := #[], guard := none }) (v := ?v14) rfl (by kernel_rfl) (by kernel_rfl) (by kernel_rfl) (fun _ _ _ h => h) (by rfl) ?hy14 ?rest14
    case hy14 => (intro w; go_simp; try (with_reducible rfl))
    try simp only [Act.put, List.setIfInBounds_toArray, List.set_cons_zero, List.set_cons_succ]
    refine wpAnyR_take (i := 20) (oi := { dst := some 77, op := Op.build 64 #[(0, Operand.const (Value.int IntKind.u64 18)), (1, Operand.const (Value.string { data := #[35, 116] }))], type := 64, pos := "law.go:190", after := #[], guard := none }) (v := ?v15) rfl (by kernel_rfl) (by kernel_rfl) (by kernel_rfl) (fun _ _ _ h => h) (by rfl) ?hy15 ?rest15
    case hy15 => (intro w; go_simp; try (with_reducible rfl))
    try simp only [Act.put, List.setIfInBounds_toArray, List.set_cons_zero, List.set_cons_succ]
    refine wpAnyR_take (i := 21) (oi := { dst := some 78, op := Op.build 64 #[(0, Operand.const (Value.int IntKind.u64 10)), (1, Operand.const (Value.string { data := #[35, 102] }))], type := 64, pos := "law.go:190", after := #[], guard := none }) (v := ?v16) rfl (by kernel_rfl) (by kernel_rfl) (by kernel_rfl) (fun _ _ _ h => h) (by rfl) ?hy16 ?rest16
    case hy16 => (intro w; go_simp; try (with_reducible rfl))
    try simp only [Act.put, List.setIfInBounds_toArray, List.set_cons_zero, List.set_cons_succ]
    refine wpAnyR_take (i := 22) (oi := { dst := some 79, op := Op.build 64 #[(0, Operand.const (Value.int IntKind.u64 26)), (1, Operand.const (Value.string { data := #[35, 117] }))], type := 64, pos := "law.go:190", after := #[], guard := none }) (v := ?v17) rfl (by kernel_rfl) (by kernel_rfl) (by kernel_rfl) (fun _ _ _ h => h) (by rfl) ?hy17 ?rest17
    case hy17 => (intro w; go_simp; try (with_reducible rfl))
    try simp only [Act.put, List.setIfInBounds_toArray, List.set_cons_zero, List.set_cons_succ]
    refine wpAnyR_take (i := 23) (oi := { dst := some 80, op := Op.move (Operand.tmp 11), type := 3, pos := "law.go:190", after := #[], guard := none }) (v := ?v18) rfl (by kernel_rfl) (by kernel_rfl) (by kernel_rfl) (fun _ _ _ h => h) (by rfl) ?hy18 ?rest18
    case hy18 => (intro w; go_simp; try (with_reducible rfl))
    try simp only [Act.put, List.setIfInBounds_toArray, List.set_cons_zero, List.set_cons_succ]
    refine wpAnyR_take (i := 24) (oi := { dst := some 81, op := Op.convert 3 32 (Operand.tmp 80), type := 32, pos := "law.go:190", after := #[{ on := 23, ground := Ground.data }], guard := none }) (v := ?v19) rfl (by kernel_rfl) (by kernel_rfl) (by kernel_rfl) (fun _ _ _ h => h) (by rfl) ?hy19 ?rest19
    case hy19 => (intro w; go_simp; try (with_reducible rfl))
    try simp only [Act.put, List.setIfInBounds_toArray, List.set_cons_zero, List.set_cons_succ]
    refine wpAnyR_take (i := 25) (oi := { dst := some 82, op := Op.binOp BinOp.shl 32 (Operand.tmp 81) (Operand.const (Value.int IntKind.u64 3)) 60, type := 32, pos := "law.go:190", after := #[{ on := 24, ground := Ground.data }], guard := none }) (v := ?v20) rfl (by kernel_rfl) (by kernel_rfl) (by kernel_rfl) (fun _ _ _ h => h) (by rfl) ?hy20 ?rest20
    case hy20 => (intro w; go_simp; try (with_reducible rfl))
    try simp only [Act.put, List.setIfInBounds_toArray, List.set_cons_zero, List.set_cons_succ]
    refine wpAnyR_take (i := 26) (oi := { dst := some 83, op := Op.binOp BinOp.or 32 (Operand.tmp 82) (Operand.const (Value.int IntKind.u64 3)) 32, type := 32, pos := "law.go:190", after := #[{ on := 25, ground := Ground.data }], guard := none }) (v := ?v21) rfl (by kernel_rfl) (by kernel_rfl) (by kernel_rfl) (fun _ _ _ h => h) (by rfl) ?hy21 ?rest21
    case hy21 => (intro w; go_simp; try (with_reducible rfl))
    try simp only [Act.put, List.setIfInBounds_toArray, List.set_cons_zero, List.set_cons_succ]
    refine wpAnyR_take (i := 27) (oi := { dst := some 84, op := Op.build 64 #[(0, Operand.tmp 83), (1, Operand.const (Value.string { data := #[110, 97, 109, 101] }))], type := 64, pos := "law.go:190", after := #[{ on := 26, ground := Ground.data }], guard := none }) (v := ?v22) rfl (by kernel_rfl) (by kernel_rfl) (by kernel_rfl) (fun _ _ _ h => h) (by rfl) ?hy22 ?rest22
    case hy22 => (intro w; go_simp; try (with_reducible rfl))
    try simp only [Act.put, List.setIfInBounds_toArray, List.set_cons_zero, List.set_cons_succ]
    refine wpAnyR_take (i := 28) (oi := { dst := some 85, op := Op.move (Operand.tmp 9), type := 3, pos := "law.go:190", after := #[], guard := none }) (v := ?v23) rfl (by kernel_rfl) (by kernel_rfl) (by kernel_rfl) (fun _ _ _ h => h) (by rfl) ?hy23 ?rest23
    case hy23 => (intro w; go_simp; try (with_reducible rfl))
    try simp only [Act.put, List.setIfInBounds_toArray, List.set_cons_zero, List.set_cons_succ]
    refine wpAnyR_take (i := 29) (oi := { dst := some 86, op := Op.binOp BinOp.add 3 (Operand.tmp 85) (Operand.const (Value.int IntKind.i64 1)) 3, type := 3, pos := "law.go:190", after := #[{ on := 28, ground := Ground.data }], guard := none }) (v := ?v24) rfl (by kernel_rfl) (by kernel_rfl) (by kernel_rfl) (fun _ _ _ h => h) (by rfl) ?hy24 ?rest24
    case hy24 => (intro w; go_simp; try (with_reducible rfl))
    try simp only [Act.put, List.setIfInBounds_toArray, List.set_cons_zero, List.set_cons_succ]
    refine wpAnyR_take (i := 30) (oi := { dst := some 87, op := Op.convert 3 32 (Operand.tmp 86), type := 32, pos := "law.go:190", after := #[{ on := 29, ground := Ground.data }], guard := none }) (v := ?v25) rfl (by kernel_rfl) (by kernel_rfl) (by kernel_rfl) (fun _ _ _ h => h) (by rfl) ?hy25 ?rest25
    case hy25 => (intro w; go_simp; try (with_reducible rfl))
    try simp only [Act.put, List.setIfInBounds_toArray, List.set_cons_zero, List.set_cons_succ]
    refine wpAnyR_take (i := 31) (oi := { dst := some 88, op := Op.binOp BinOp.shl 32 (Operand.tmp 87) (Operand.const (Value.int IntKind.u64 3)) 60, type := 32, pos := "law.go:190", after := #[{ on := 30, ground := Ground.data }], guard := none }) (v := ?v26) rfl (by kernel_rfl) (by kernel_rfl) (by kernel_rfl) (fun _ _ _ h => h) (by rfl) ?hy26 ?rest26
    case hy26 => (intro w; go_simp; try (with_reducible rfl))
    try simp only [Act.put, List.setIfInBounds_toArray, List.set_cons_zero, List.set_cons_succ]
    refine wpAnyR_take (i := 32) (oi := { dst := some 89, op := Op.binOp BinOp.or 32 (Operand.tmp 88) (Operand.const (Value.int IntKind.u64 3)) 32, type := 32, pos := "law.go:190", after := #[{ on := 31, ground := Ground.data }], guard := none }) (v := ?v27) rfl (by kernel_rfl) (by kernel_rfl) (by kernel_rfl) (fun _ _ _ h => h) (by rfl) ?hy27 ?rest27
    case hy27 => (intro w; go_simp; try (with_reducible rfl))
    try simp only [Act.put, List.setIfInBounds_toArray, List.set_cons_zero, List.set_cons_succ]
    refine wpAnyR_take (i := 33) (oi := { dst := some 90, op := Op.move (Operand.tmp 9), type := 3, pos := "law.go:190", after := #[], guard := none }) (v := ?v28) rfl (by kernel_rfl) (by kernel_rfl) (by kernel_rfl) (fun _ _ _ h => h) (by rfl) ?hy28 ?rest28
    case hy28 => (intro w; go_simp; try (with_reducible rfl))
    try simp only [Act.put, List.setIfInBounds_toArray, List.set_cons_zero, List.set_cons_succ]
    refine wpAnyR_take (i := 34) (oi := { dst := some 91, op := Op.binOp BinOp.add 3 (Operand.tmp 90) (Operand.const (Value.int IntKind.i64 1)) 3, type := 3, pos := "law.go:190", after := #[{ on := 33, ground := Ground.data }], guard := none }) (v := ?v29) rfl (by kernel_rfl) (by kernel_rfl) (by kernel_rfl) (fun _ _ _ h => h) (by rfl) ?hy29 ?rest29
    case hy29 => (intro w; go_simp; try (with_reducible rfl))
    try simp only [Act.put, List.setIfInBounds_toArray, List.set_cons_zero, List.set_cons_succ]
    refine wpAnyR_take (i := 38) (oi := { dst := some 95, op := Op.move (Operand.tmp 9), type := 3, pos := "law.go:190", after := #[], guard := none }) (v := ?v30) rfl (by kernel_rfl) (by kernel_rfl) (by kernel_rfl) (fun _ _ _ h => h) (by rfl) ?hy30 ?rest30
    case hy30 => (intro w; go_simp; try (with_reducible rfl))
    try simp only [Act.put, List.setIfInBounds_toArray, List.set_cons_zero, List.set_cons_succ]
    refine wpAnyR_take (i := 39) (oi := { dst := some 96, op := Op.convert 3 32 (Operand.tmp 95), type := 32, pos := "law.go:190", after := #[{ on := 38, ground := Ground.data }], guard := none }) (v := ?v31) rfl (by kernel_rfl) (by kernel_rfl) (by kernel_rfl) (fun _ _ _ h => h) (by rfl) ?hy31 ?rest31
    case hy31 => (intro w; go_simp; try (with_reducible rfl))
    try simp only [Act.put, List.setIfInBounds_toArray, List.set_cons_zero, List.set_cons_succ]
    refine wpAnyR_take (i := 40) (oi := { dst := some 97, op := Op.binOp BinOp.shl 32 (Operand.tmp 96) (Operand.const (Value.int IntKind.u64 3)) 60, type := 32, pos := "law.go:190", after := #[{ on := 39, ground := Ground.data }], guard := none }) (v := ?v32) rfl (by kernel_rfl) (by kernel_rfl) (by kernel_rfl) (fun _ _ _ h => h) (by rfl) ?hy32 ?rest32
    case hy32 => (intro w; go_simp; try (with_reducible rfl))
    try simp only [Act.put, List.setIfInBounds_toArray, List.set_cons_zero, List.set_cons_succ]
    refine wpAnyR_take (i := 41) (oi := { dst := some 98, op := Op.binOp BinOp.or 32 (Operand.tmp 97) (Operand.const (Value.int IntKind.u64 4)) 32, type := 32, pos := "law.go:190", after := #[{ on := 40, ground := Ground.data }], guard := none }) (v := ?v33) rfl (by kernel_rfl) (by kernel_rfl) (by kernel_rfl) (fun _ _ _ h => h) (by rfl) ?hy33 ?rest33
    case hy33 => (intro w; go_simp; try (with_reducible rfl))
    try simp only [Act.put, List.setIfInBounds_toArray, List.set_cons_zero, List.set_cons_succ]
    refine wpAnyR_take (i := 42) (oi := { dst := some 99, op := Op.move (Operand.tmp 10), type := 9, pos := "law.go:190", after := #[], guard := none }) (v := ?v34) rfl (by kernel_rfl) (by kernel_rfl) (by kernel_rfl) (fun _ _ _ h => h) (by rfl) ?hy34 ?rest34
    case hy34 => (intro w; go_simp; try (with_reducible rfl))
    try simp only [Act.put, List.setIfInBounds_toArray, List.set_cons_zero, List.set_cons_succ]
    refine wpAnyR_take (i := 43) (oi := { dst := some 100, op := Op.binOp BinOp.add 9 (Operand.const (Value.string { data := #[35, 104] })) (Operand.tmp 99) 9, type := 9, pos := "law.go:190", after := #[{ on := 42, ground := Ground.data }], guard := none }) (v := ?v35) rfl (by kernel_rfl) (by kernel_rfl) (by kernel_rfl) (fun _ _ _ h => h) (by rfl) ?hy35 ?rest35
    case hy35 => (intro w; go_simp; try (with_reducible rfl))
    try simp only [Act.put, List.setIfInBounds_toArray, List.set_cons_zero, List.set_cons_succ]
    refine wpAnyR_take (i := 44) (oi := { dst := some 101, op := Op.build 64 #[(0, Operand.tmp 98), (1, Operand.tmp 100)], type := 64, pos := "law.go:190", after := #[{ on := 41, ground := Ground.data }, { on := 43, ground := Ground.data }], guard := none }) (v := ?v36) rfl (by kernel_rfl) (by kernel_rfl) (by kernel_rfl) (fun _ _ _ h => h) (by rfl) ?hy36 ?rest36
    case hy36 => (intro w; go_simp; try (with_reducible rfl))
    try simp only [Act.put, List.setIfInBounds_toArray, List.set_cons_zero, List.set_cons_succ]
    refine wpAnyR_take (i := 45) (oi := { dst := some 102, op := Op.move (Operand.tmp 13), type := 32, pos := "law.go:190", after := #[], guard := none }) (v := ?v37) rfl (by kernel_rfl) (by kernel_rfl) (by kernel_rfl) (fun _ _ _ h => h) (by rfl) ?hy37 ?rest37
    case hy37 => (intro w; go_simp; try (with_reducible rfl))
    try simp only [Act.put, List.setIfInBounds_toArray, List.set_cons_zero, List.set_cons_succ]
    refine wpAnyR_take (i := 46) (oi := { dst := some 103, op := Op.move (Operand.tmp 1), type := 5, pos := "law.go:190", after := #[], guard := none }) (v := ?v38) rfl (by kernel_rfl) (by kernel_rfl) (by kernel_rfl) (fun _ _ _ h => h) (by rfl) ?hy38 ?rest38
    case hy38 => (intro w; go_simp; try (with_reducible rfl))
    try simp only [Act.put, List.setIfInBounds_toArray, List.set_cons_zero, List.set_cons_succ]
    refine wpAnyR_take (i := 47) (oi := { dst := some 104, op := Op.binOp BinOp.rem 5 (Operand.tmp 103) (Operand.const (Value.int IntKind.u8 8)) 5, type := 5, pos := "law.go:190", after := #[{ on := 46, ground := Ground.data }], guard := none }) (v := ?v39) rfl (by kernel_rfl) (by kernel_rfl) (by kernel_rfl) (fun _ _ _ h => h) (by rfl) ?hy39 ?rest39
    case hy39 => (intro w; go_simp; try (with_reducible rfl))
    try simp only [Act.put, List.setIfInBounds_toArray, List.set_cons_zero, List.set_cons_succ]
    refine wpAnyR_take (i := 48) (oi := { dst := some 105, op := Op.convert 5 3 (Operand.tmp 104), type := 3, pos := "law.go:190", after := #[{ on := 47, ground := Ground.data }], guard := none }) (v := ?v40) rfl (by kernel_rfl) (by kernel_rfl) (by kernel_rfl) (fun _ _ _ h => h) (by rfl) ?hy40 ?rest40
    case hy40 => (intro w; go_simp; try (with_reducible rfl))
    try simp only [Act.put, List.setIfInBounds_toArray, List.set_cons_zero, List.set_cons_succ]
    refine wpAnyR_take (i := 49) (oi := { dst := some 106, op := Op.binOp BinOp.add 3 (Operand.tmp 105) (Operand.const (Value.int IntKind.i64 2)) 3, type := 3, pos := "law.go:190", after := #[{ on := 48, ground := Ground.data }], guard := none }) (v := ?v41) rfl (by kernel_rfl) (by kernel_rfl) (by kernel_rfl) (fun _ _ _ h => h) (by rfl) ?hy41 ?rest41
    case hy41 => (intro w; go_simp; try (with_reducible rfl))
    try simp only [Act.put, List.setIfInBounds_toArray, List.set_cons_zero, List.set_cons_succ]
    refine wpAnyR_take (i := 53) (oi := { dst := some 110, op := Op.move (Operand.tmp 9), type := 3, pos := "law.go:190", after := #[], guard := none }) (v := ?v42) rfl (by kernel_rfl) (by kernel_rfl) (by kernel_rfl) (fun _ _ _ h => h) (by rfl) ?hy42 ?rest42
    case hy42 => (intro w; go_simp; try (with_reducible rfl))
    try simp only [Act.put, List.setIfInBounds_toArray, List.set_cons_zero, List.set_cons_succ]
    refine wpAnyR_take (i := 54) (oi := { dst := some 111, op := Op.binOp BinOp.add 3 (Operand.tmp 110) (Operand.const (Value.int IntKind.i64 5)) 3, type := 3, pos := "law.go:190", after := #[{ on := 53, ground := Ground.data }], guard := none }) (v := ?v43) rfl (by kernel_rfl) (by kernel_rfl) (by kernel_rfl) (fun _ _ _ h => h) (by rfl) ?hy43 ?rest43
    case hy43 => (intro w; go_simp; try (with_reducible rfl))
    try simp only [Act.put, List.setIfInBounds_toArray, List.set_cons_zero, List.set_cons_succ]
    refine wpAnyR_take (i := 55) (oi := { dst := some 112, op := Op.convert 3 32 (Operand.tmp 111), type := 32, pos := "law.go:190", after := #[{ on := 54, ground := Ground.data }], guard := none }) (v := ?v44) rfl (by kernel_rfl) (by kernel_rfl) (by kernel_rfl) (fun _ _ _ h => h) (by rfl) ?hy44 ?rest44
    case hy44 => (intro w; go_simp; try (with_reducible rfl))
    try simp only [Act.put, List.setIfInBounds_toArray, List.set_cons_zero, List.set_cons_succ]
    refine wpAnyR_take (i := 56) (oi := { dst := some 113, op := Op.binOp BinOp.shl 32 (Operand.tmp 112) (Operand.const (Value.int IntKind.u64 3)) 60, type := 32, pos := "law.go:190", after := #[{ on := 55, ground := Ground.data }], guard := none }) (v := ?v45) rfl (by kernel_rfl) (by kernel_rfl) (by kernel_rfl) (fun _ _ _ h => h) (by rfl) ?hy45 ?rest45
    case hy45 => (intro w; go_simp; try (with_reducible rfl))
    try simp only [Act.put, List.setIfInBounds_toArray, List.set_cons_zero, List.set_cons_succ]
    refine wpAnyR_take (i := 57) (oi := { dst := some 114, op := Op.binOp BinOp.or 32 (Operand.tmp 113) (Operand.const (Value.int IntKind.u64 1)) 32, type := 32, pos := "law.go:190", after := #[{ on := 56, ground := Ground.data }], guard := none }) (v := ?v46) rfl (by kernel_rfl) (by kernel_rfl) (by kernel_rfl) (fun _ _ _ h => h) (by rfl) ?hy46 ?rest46
    case hy46 => (intro w; go_simp; try (with_reducible rfl))
    try simp only [Act.put, List.setIfInBounds_toArray, List.set_cons_zero, List.set_cons_succ]
    refine wpAnyR_take (i := 58) (oi := { dst := some 115, op := Op.build 64 #[(0, Operand.tmp 114), (1, Operand.const (Value.string { data := #[35, 63] }))], type := 64, pos := "law.go:190", after := #[{ on := 57, ground := Ground.data }], guard := none }) (v := ?v47) rfl (by kernel_rfl) (by kernel_rfl) (by kernel_rfl) (fun _ _ _ h => h) (by rfl) ?hy47 ?rest47
    case hy47 => (intro w; go_simp; try (with_reducible rfl))
    try simp only [Act.put, List.setIfInBounds_toArray, List.set_cons_zero, List.set_cons_succ]
    refine wpAnyR_take (i := 59) (oi := { dst := some 116, op := Op.build 64 #[(0, Operand.const (Value.int IntKind.u64 7)), (1, Operand.const (Value.string { data := #[35, 63] }))], type := 64, pos := "law.go:190", after := #[], guard := none }) (v := ?v48) rfl (by kernel_rfl) (by kernel_rfl) (by kernel_rfl) (fun _ _ _ h => h) (by rfl) ?hy48 ?rest48
    case hy48 => (intro w; go_simp; try (with_reducible rfl))
    try simp only [Act.put, List.setIfInBounds_toArray, List.set_cons_zero, List.set_cons_succ]
    refine wpAnyR_take (i := 62) (oi := { dst := some 119, op := Op.move (Operand.const (Value.int IntKind.i64 0)), type := 3, pos := "law.go:190", after := #[], guard := none }) (v := ?v49) rfl (by kernel_rfl) (by kernel_rfl) (by kernel_rfl) (fun _ _ _ h => h) (by rfl) ?hy49 ?rest49
    case hy49 => (intro w; go_simp; try (with_reducible rfl))
    try simp only [Act.put, List.setIfInBounds_toArray, List.set_cons_zero, List.set_cons_succ]
    refine wpAnyR_call (i := 35) (oi := { dst := some 92, op := Op.call { callee := Callee.value (Operand.func 25), args := #[Operand.tmp 91], argTypes := #[3] }, type := 9, pos := "law.go:193", after := #[{ on := 34, ground := Ground.data }], guard := none }) (v := .string dk1) 25 #[.int .i64 ((k : Int) + 1)] rfl (by kernel_rfl) (by kernel_rfl) (by kernel_rfl) (fun _ _ _ h => h) (by rfl) ?hyc35 HDK1.out ?restc35
    case hyc35 => (intro w; go_simp; try (with_reducible rfl))
    try simp only [Act.put, List.setIfInBounds_toArray, List.set_cons_zero, List.set_cons_succ]
    refine wpAnyR_take (i := 36) (oi := { dst := some 93, op := Op.binOp BinOp.add 9 (Operand.const (Value.string { data := #[35, 110] })) (Operand.tmp 92) 9, type := 9, pos := "law.go:190", after := #[{ on := 35, ground := Ground.data }], guard := none }) (v := ?v50) rfl (by kernel_rfl) (by kernel_rfl) (by kernel_rfl) (fun _ _ _ h => h) (by rfl) ?hy50 ?rest50
    case hy50 => (intro w; go_simp; try (with_reducible rfl))
    try simp only [Act.put, List.setIfInBounds_toArray, List.set_cons_zero, List.set_cons_succ]
    refine wpAnyR_take (i := 37) (oi := { dst := some 94, op := Op.build 64 #[(0, Operand.tmp 89), (1, Operand.tmp 93)], type := 64, pos := "law.go:190", after := #[{ on := 32, ground := Ground.data }, { on := 36, ground := Ground.data }], guard := none }) (v := ?v51) rfl (by kernel_rfl) (by kernel_rfl) (by kernel_rfl) (fun _ _ _ h => h) (by rfl) ?hy51 ?rest51
    case hy51 => (intro w; go_simp; try (with_reducible rfl))
    try simp only [Act.put, List.setIfInBounds_toArray, List.set_cons_zero, List.set_cons_succ]
    refine wpAnyR_call (i := 50) (oi := { dst := some 107, op := Op.call { callee := Callee.value (Operand.func 25), args := #[Operand.tmp 106], argTypes := #[3] }, type := 9, pos := "law.go:193", after := #[{ on := 49, ground := Ground.data }, { on := 35, ground := Ground.chain }], guard := none }) (v := .string dm) 25 #[.int .i64 ((m : Int) + 2)] rfl (by kernel_rfl) (by kernel_rfl) (by kernel_rfl) (fun _ _ _ h => h) (by rfl) ?hyc50 HDM.out ?restc50
    case hyc50 => (intro w; go_simp; try (with_reducible rfl))
    try simp only [Act.put, List.setIfInBounds_toArray, List.set_cons_zero, List.set_cons_succ]
    refine wpAnyR_take (i := 51) (oi := { dst := some 108, op := Op.binOp BinOp.add 9 (Operand.const (Value.string { data := #[35] })) (Operand.tmp 107) 9, type := 9, pos := "law.go:190", after := #[{ on := 50, ground := Ground.data }], guard := none }) (v := ?v52) rfl (by kernel_rfl) (by kernel_rfl) (by kernel_rfl) (fun _ _ _ h => h) (by rfl) ?hy52 ?rest52
    case hy52 => (intro w; go_simp; try (with_reducible rfl))
    try simp only [Act.put, List.setIfInBounds_toArray, List.set_cons_zero, List.set_cons_succ]
    refine wpAnyR_take (i := 52) (oi := { dst := some 109, op := Op.build 64 #[(0, Operand.tmp 102), (1, Operand.tmp 108)], type := 64, pos := "law.go:190", after := #[{ on := 45, ground := Ground.data }, { on := 51, ground := Ground.data }], guard := none }) (v := ?v53) rfl (by kernel_rfl) (by kernel_rfl) (by kernel_rfl) (fun _ _ _ h => h) (by rfl) ?hy53 ?rest53
    case hy53 => (intro w; go_simp; try (with_reducible rfl))
    try simp only [Act.put, List.setIfInBounds_toArray, List.set_cons_zero, List.set_cons_succ]
    refine wpAnyR_ready (rs := [9]) (by kernel_rfl) (by simp) (fun w1 hR1 => ?_)
    have hFr := hFr.trans hR1 (by simp)
    obtain ⟨w9, bm, hrN, hm, hFr⟩ := mk_made (D := dn) hFr
    refine AllReadyR.cons (o := { dst := some 68, op := Op.makeMap 65 none, type := 65, pos := "law.go:190", after := #[], guard := none }) rfl (fun K hK => ?_) AllReadyR.nil
    go_simp
    refine hK.out _ _ ?_
    clear hK K
    try simp only [Act.put, List.setIfInBounds_toArray, List.set_cons_zero, List.set_cons_succ]
    clear hrN
    refine wpAnyR_ready (rs := [12, 13]) (by kernel_rfl) (by simp) (fun w1 hR1 => ?_)
    have hFr := hFr.trans hR1 (by simp)
    have hm := hm.call hR1
    refine AllReadyR.cons (o := { dst := none, op := Op.insert 65 (Operand.tmp 68) (Operand.const (Value.bool true)) (Operand.tmp 70), type := 0, pos := "law.go:190", after := #[{ on := 9, ground := Ground.data }, { on := 11, ground := Ground.data }], guard := none }) rfl (fun K hK => ?_) (AllReadyR.cons (o := { dst := none, op := Op.insert 65 (Operand.tmp 68) (Operand.const (Value.bool false)) (Operand.const (Value.string { data := #[48] })), type := 0, pos := "law.go:190", after := #[{ on := 9, ground := Ground.data }], guard := none }) rfl (fun K hK => ?_) AllReadyR.nil)
    · obtain ⟨w10, hrN, hm, hFr⟩ := upd_T0 hdn100 hm
      go_simp
      refine hK.out _ _ ?_
      clear hK K
      try simp only [Act.put, List.setIfInBounds_toArray, List.set_cons_zero, List.set_cons_succ]
      clear hrN
      refine wpAnyR_ready (rs := [13]) (by kernel_rfl) (by simp) (fun w1 hR1 => ?_)
      have hFr := hFr.trans hR1 (by simp)
      have hm := hm.call hR1
      obtain ⟨w11, hrN, hm, hFr⟩ := upd_F1 hm
      refine AllReadyR.cons (o := { dst := none, op := Op.insert 65 (Operand.tmp 68) (Operand.const (Value.bool false)) (Operand.const (Value.string { data := #[48] })), type := 0, pos := "law.go:190", after := #[{ on := 9, ground := Ground.data }], guard := none }) rfl (fun K hK => ?_) AllReadyR.nil
      go_simp
      refine hK.out _ _ ?_
      clear hK K
      try simp only [Act.put, List.setIfInBounds_toArray, List.set_cons_zero, List.set_cons_succ]
      clear hrN
      refine wpAnyR_take (i := 14) (oi := { dst := some 71, op := Op.move (Operand.tmp 68), type := 65, pos := "law.go:190", after := #[{ on := 9, ground := Ground.data }, { on := 10, ground := Ground.data }, { on := 11, ground := Ground.data }, { on := 12, ground := Ground.data }, { on := 13, ground := Ground.data }], guard := none }) (v := ?v54) rfl (by kernel_rfl) (by kernel_rfl) (by kernel_rfl) (fun _ _ _ h => h) (by rfl) ?hy54 ?rest54
      case hy54 => (intro w; go_simp; try (with_reducible rfl))
      try simp only [Act.put, List.setIfInBounds_toArray, List.set_cons_zero, List.set_cons_succ]
      refine wpAnyR_ready (rs := [17]) (by kernel_rfl) (by simp) (fun w1 hR1 => ?_)
      have hFr := hFr.trans hR1 (by simp)
      have hm := hm.call hR1
      have hrN := look_3 hm
      refine AllReadyR.cons (o := { dst := some 74, op := Op.lookup 65 (Operand.tmp 71) (Operand.tmp 73) false, type := 9, pos := "law.go:190", after := #[{ on := 14, ground := Ground.data }, { on := 16, ground := Ground.data }], guard := none }) rfl (fun K hK => ?_) AllReadyR.nil
      go_simp
      refine hK.out _ _ ?_
      clear hK K
      try simp only [Act.put, List.setIfInBounds_toArray, List.set_cons_zero, List.set_cons_succ]
      clear hrN
      refine wpAnyR_take (i := 18) (oi := { dst := some 75, op := Op.build 64 #[(0, Operand.tmp 67), (1, Operand.tmp 74)], type := 64, pos := "law.go:190", after := #[{ on := 8, ground := Ground.data }, { on := 17, ground := Ground.data }], guard := none }) (v := ?v55) rfl (by kernel_rfl) (by kernel_rfl) (by kernel_rfl) (fun _ _ _ h => h) (by rfl) ?hy55 ?rest55
      case hy55 => (intro w; go_simp; try (with_reducible rfl))
      try simp only [Act.put, List.setIfInBounds_toArray, List.set_cons_zero, List.set_cons_succ]
      refine wpAnyR_ready (rs := [60]) (by kernel_rfl) (by simp) (fun w1 hR1 => ?_)
      have hFr := hFr.trans hR1 (by simp)
      refine AllReadyR.cons (o := { dst := some 117, op := Op.buildSlice 66 12 #[(0, Operand.tmp 63), (1, Operand.tmp 75), (2, Operand.tmp 76), (3, Operand.tmp 77), (4, Operand.tmp 78), (5, Operand.tmp 79), (6, Operand.tmp 84), (7, Operand.tmp 94), (8, Operand.tmp 101), (9, Operand.tmp 109), (10, Operand.tmp 115), (11, Operand.tmp 116)], type := 66, pos := "law.go:190", after := #[{ on := 4, ground := Ground.data }, { on := 18, ground := Ground.data }, { on := 19, ground := Ground.data }, { on := 20, ground := Ground.data }, { on := 21, ground := Ground.data }, { on := 22, ground := Ground.data }, { on := 27, ground := Ground.data }, { on := 37, ground := Ground.data }, { on := 44, ground := Ground.data }, { on := 52, ground := Ground.data }, { on := 58, ground := Ground.data }, { on := 59, ground := Ground.data }], guard := none }) rfl (fun K hK => ?_) AllReadyR.nil
      go_simp
      refine hK.out _ _ ?_
      clear hK K
      try simp only [Act.put, List.setIfInBounds_toArray, List.set_cons_zero, List.set_cons_succ]
      refine wpAnyR_take (i := 61) (oi := { dst := some 118, op := Op.call { callee := Callee.builtin Builtin.len, args := #[Operand.tmp 117], argTypes := #[66] }, type := 3, pos := "law.go:190", after := #[{ on := 60, ground := Ground.data }], guard := none }) (v := ?v56) rfl (by kernel_rfl) (by kernel_rfl) (by kernel_rfl) (fun _ _ _ h => h) (by rfl) ?hy56 ?rest56
      case hy56 => (intro w; go_simp; try (with_reducible rfl))
      try simp only [Act.put, List.setIfInBounds_toArray, List.set_cons_zero, List.set_cons_succ]
      refine wpAnyR_done (by kernel_rfl) (fun w2 hR2 => ?_) _
      first | refine NoPanic.normal ?_ | skip
      go_wp2_with fail
      go_meet
      exact ⟨_, rfl, rfl, rfl, Lib.hid ⟨HRP.out ▸ ((MM.Row.new w1 64 (RAW k dk dk1 dm dn)).far hR2 (by simp)), (hFr.alloc _).trans hR2 (by simp)⟩⟩
    · obtain ⟨w10, hrN, hm, hFr⟩ := upd_F0 hm
      go_simp
      refine hK.out _ _ ?_
      clear hK K
      try simp only [Act.put, List.setIfInBounds_toArray, List.set_cons_zero, List.set_cons_succ]
      clear hrN
      refine wpAnyR_ready (rs := [12]) (by kernel_rfl) (by simp) (fun w1 hR1 => ?_)
      have hFr := hFr.trans hR1 (by simp)
      have hm := hm.call hR1
      obtain ⟨w11, hrN, hm, hFr⟩ := upd_T2 hdn100 hm
      refine AllReadyR.cons (o := { dst := none, op := Op.insert 65 (Operand.tmp 68) (Operand.const (Value.bool true)) (Operand.tmp 70), type := 0, pos := "law.go:190", after := #[{ on := 9, ground := Ground.data }, { on := 11, ground := Ground.data }], guard := none }) rfl (fun K hK => ?_) AllReadyR.nil
      go_simp
      refine hK.out _ _ ?_
      clear hK K
      try simp only [Act.put, List.setIfInBounds_toArray, List.set_cons_zero, List.set_cons_succ]
      clear hrN
      refine wpAnyR_take (i := 14) (oi := { dst := some 71, op := Op.move (Operand.tmp 68), type := 65, pos := "law.go:190", after := #[{ on := 9, ground := Ground.data }, { on := 10, ground := Ground.data }, { on := 11, ground := Ground.data }, { on := 12, ground := Ground.data }, { on := 13, ground := Ground.data }], guard := none }) (v := ?v57) rfl (by kernel_rfl) (by kernel_rfl) (by kernel_rfl) (fun _ _ _ h => h) (by rfl) ?hy57 ?rest57
      case hy57 => (intro w; go_simp; try (with_reducible rfl))
      try simp only [Act.put, List.setIfInBounds_toArray, List.set_cons_zero, List.set_cons_succ]
      refine wpAnyR_ready (rs := [17]) (by kernel_rfl) (by simp) (fun w1 hR1 => ?_)
      have hFr := hFr.trans hR1 (by simp)
      have hm := hm.call hR1
      have hrN := look_4 hm
      refine AllReadyR.cons (o := { dst := some 74, op := Op.lookup 65 (Operand.tmp 71) (Operand.tmp 73) false, type := 9, pos := "law.go:190", after := #[{ on := 14, ground := Ground.data }, { on := 16, ground := Ground.data }], guard := none }) rfl (fun K hK => ?_) AllReadyR.nil
      go_simp
      refine hK.out _ _ ?_
      clear hK K
      try simp only [Act.put, List.setIfInBounds_toArray, List.set_cons_zero, List.set_cons_succ]
      clear hrN
      refine wpAnyR_take (i := 18) (oi := { dst := some 75, op := Op.build 64 #[(0, Operand.tmp 67), (1, Operand.tmp 74)], type := 64, pos := "law.go:190", after := #[{ on := 8, ground := Ground.data }, { on := 17, ground := Ground.data }], guard := none }) (v := ?v58) rfl (by kernel_rfl) (by kernel_rfl) (by kernel_rfl) (fun _ _ _ h => h) (by rfl) ?hy58 ?rest58
      case hy58 => (intro w; go_simp; try (with_reducible rfl))
      try simp only [Act.put, List.setIfInBounds_toArray, List.set_cons_zero, List.set_cons_succ]
      refine wpAnyR_ready (rs := [60]) (by kernel_rfl) (by simp) (fun w1 hR1 => ?_)
      have hFr := hFr.trans hR1 (by simp)
      refine AllReadyR.cons (o := { dst := some 117, op := Op.buildSlice 66 12 #[(0, Operand.tmp 63), (1, Operand.tmp 75), (2, Operand.tmp 76), (3, Operand.tmp 77), (4, Operand.tmp 78), (5, Operand.tmp 79), (6, Operand.tmp 84), (7, Operand.tmp 94), (8, Operand.tmp 101), (9, Operand.tmp 109), (10, Operand.tmp 115), (11, Operand.tmp 116)], type := 66, pos := "law.go:190", after := #[{ on := 4, ground := Ground.data }, { on := 18, ground := Ground.data }, { on := 19, ground := Ground.data }, { on := 20, ground := Ground.data }, { on := 21, ground := Ground.data }, { on := 22, ground := Ground.data }, { on := 27, ground := Ground.data }, { on := 37, ground := Ground.data }, { on := 44, ground := Ground.data }, { on := 52, ground := Ground.data }, { on := 58, ground := Ground.data }, { on := 59, ground := Ground.data }], guard := none }) rfl (fun K hK => ?_) AllReadyR.nil
      go_simp
      refine hK.out _ _ ?_
      clear hK K
      try simp only [Act.put, List.setIfInBounds_toArray, List.set_cons_zero, List.set_cons_succ]
      refine wpAnyR_take (i := 61) (oi := { dst := some 118, op := Op.call { callee := Callee.builtin Builtin.len, args := #[Operand.tmp 117], argTypes := #[66] }, type := 3, pos := "law.go:190", after := #[{ on := 60, ground := Ground.data }], guard := none }) (v := ?v59) rfl (by kernel_rfl) (by kernel_rfl) (by kernel_rfl) (fun _ _ _ h => h) (by rfl) ?hy59 ?rest59
      case hy59 => (intro w; go_simp; try (with_reducible rfl))
      try simp only [Act.put, List.setIfInBounds_toArray, List.set_cons_zero, List.set_cons_succ]
      refine wpAnyR_done (by kernel_rfl) (fun w2 hR2 => ?_) _
      first | refine NoPanic.normal ?_ | skip
      go_wp2_with fail
      go_meet
      exact ⟨_, rfl, rfl, rfl, Lib.hid ⟨HRP.out ▸ ((MM.Row.new w1 64 (RAW k dk dk1 dm dn)).far hR2 (by simp)), (hFr.alloc _).trans hR2 (by simp)⟩⟩

  case rest =>
    obtain ⟨bl, rfl, rfl, rfl, hRW⟩ := hcut
    have hFW : MM.Far [] w w6 := by
      have h1 := HPG.out
      have h2 := HGN.out
      have h3 := HF1.out.size
      exact ((((HF1.out.trans HF3.out (by simp)).trans HF4.out (by simp)).trans HF5.out (fun b hb hl => by
        have : b = gn := by simpa using hb
        omega)).trans HF6.out (fun b hb hl => by
        simp only [List.mem_cons, List.not_mem_nil, or_false] at hb
        omega))
    have HN6 := Lib.hid (HN5.out.far HF6.out (fun b hb hm => by
      have h1 := HPG.out
      have h2 := HGA.out
      have h3 := HF3.out.size
      have h4 := HF4.out.size
      simp only [List.mem_cons, List.not_mem_nil, or_false] at hm
      rcases HS5.out b hb with h | h
      · have : b = gn := by simpa using h
        omega
      · omega))
    have HW := Lib.hid (fun (wx : World) (f : MM.Far [] w6 wx) (x : Int × ByteArray) (hx : x ∈ PV k m) => word_pv hk1 hm8 (HA6.out.far f (by simp) (by simp) (by simp)) (HN6.out.nil f) (HT.out.far (hFW.trans f (by simp))) x hx)
    have HFW := Lib.hid hFW
    have HPS := Lib.hid (pv_small k m hk1 hm8)
    clear hFW HF0 HA1 HF1 HPG HF3 HN3 HGN HF4 HN5 HF5 HS5 HGA HAL HF6 HS HT HDE HA6 HN6 HRP HDK1 HDM hdn
    have HFC : Hid (MM.Far [] wc wc) := Lib.hid (MM.Far.refl [] wc)
    go_wp2_with (fail)
    go_loopw [119] (fun s119 wr => ∃ j : Nat, j ≤ 12 ∧ s119 = .int .i64 j ∧ Hid (MM.Far [] wc wr)) (fun s119 _ => 12 - (intOf s119).toNat)
    case atStart => exact ⟨0, by omega, rfl, HFC⟩
    case round =>
      obtain ⟨j, hj, rfl, hFj⟩ := hrel
      clear HFC
      by_cases hlt : j < 12
      · have hjl : j < (PV k m).length := hlt
        obtain ⟨p0, p1⟩ := pc_at (PV k m) j hjl
        have hr := hRW.out.1.far hFj.out (by simp)
        have c0 := hr.at p0
        have c1 := hr.at p1
        have hxm := List.getElem_mem hjl
        have HWx := Lib.hid (fun (wx : World) (f : MM.Far [] w6 wx) => HW.out wx f (PV k m)[j] hxm)
        have hs100 := HPS.out (PV k m)[j] hxm
        clear hxm p0 p1 hr
        generalize (PV k m)[j] = x at *
        obtain ⟨xw, xs⟩ := x
        simp only at c0 c1 HWx hs100
        obtain ⟨bx, hbx⟩ : ∃ bx, wr.heap.size = bx := ⟨_, rfl⟩
        have HBX := Lib.hid (hbx ▸ MM.Row.new wr 64 [.int .u64 xw, .string xs])
        have HBXE := Lib.hid hbx
        have HF7 := Lib.hid ((hRW.out.2.trans hFj.out (by simp)).alloc (.cells #[.int .u64 xw, .string xs] 64))
        have HF8 := Lib.hid (hFj.out.alloc (.cells #[.int .u64 xw, .string xs] 64))
        clear hbx
        go_upto_region 15 with (fail)
        rw [HBXE.out]
        rw [show wr.alloc (.cells [Value.int .u64 xw, .string xs].toArray 64) = wr.alloc (.cells #[.int .u64 xw, .string xs] 64) from rfl] at HBX
        generalize wr.alloc (.cells #[.int .u64 xw, .string xs] 64) = W at *
        clear c0 c1
        have z0 := HBX.out.at (i := 0) rfl
        have z1 := HBX.out.at (i := 1) rfl
        go_region_held3 (fun w' => w'.cell? ⟨bx, 0, none⟩ = some (.int .u64 xw) ∧ w'.cell? ⟨bx, 1, none⟩ = some (.string xs)) (go_keep) (first
          | (go_at_call 20
             (with_reducible refine (HWx.out _ (by first | exact HF7.out | exact HF7.out.drew)).mono ?_)
             rintro e w8 ⟨rfl, hF9⟩
             have hF10 : MM.Far [] W w8 := by first | exact hF9 | exact (MM.Far.refl [] W).drew.trans hF9 (by simp)
             have hx8 := HBX.out.far hF10 (by simp)
             have y0 := hx8.at (i := 0) rfl
             have y1 := hx8.at (i := 1) rfl
             have HF10 := Lib.hid (HF8.out.trans hF10 (by simp))
             clear hF9 hF10 hx8))
        all_goals
          go_wp2
          go_roundw
          case rel => exact ⟨j + 1, by omega, by go_num, Lib.hid (by first | exact HF10.out | exact HF10.out.drew | exact HF10.out.drewN _)⟩
          case measure => simp [intOf]; omega
      · obtain rfl : j = 12 := by omega
        go_wp2
        go_ret
        exact ⟨rfl, ((HFW.out.trans hRW.out.2 (by simp)).trans hFj.out (by simp)).below_nil⟩
end SW
end Go.Proofs.YtbglcdjimipeeaaGreatDoor
