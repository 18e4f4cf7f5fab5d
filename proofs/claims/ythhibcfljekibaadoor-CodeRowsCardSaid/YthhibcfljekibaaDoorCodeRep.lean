/-
  slices.Repeat of one number: a row of so many. Conditions: sizes.
-/
import Derived.Test.YthhibcfljekibaaDoorCodeC2
import Derived.Deep.RegionHeld3
namespace Go.Proofs.YthhibcfljekibaaDoor
open Go.RowKit
set_option linter.unusedVariables false
namespace KW
open KP
theorem wrap_id (x : Int) (h0 : 0 ≤ x) (h : x ≤ 1000000000) : IntKind.i64.wrap x = x := by
  unfold IntKind.wrap
  simp [IntKind.bits, IntKind.signed]
  omega
theorem made_list (z : Value) (n : Nat) : madeCells #[z] n = (List.replicate n z).toArray := by
  apply Array.ext
  · simp [size_madeCells]
  · intro i h1 h2
    simp [madeCells, Nat.mod_one]
theorem add_zero_ (a : Addr) : a.add 0 = a := by unfold Addr.add; simp
theorem ints_slice : Tryd.prog.underlying 32 = some (.slice 3) := by kernel_rfl
theorem int_info : (Tryd.prog.info? 3).map (fun i => (i.zero, i.size, i.bytes)) = some (some (.int .i64 0), 1, 8) := by kernel_rfl
theorem int_size : (Tryd.prog.info? 3).map (·.size) = some 1 := by kernel_rfl
theorem and32 (n : Nat) (h : n < 4294967296) : bits .and .u64 (n : Int) 4294967295 = n := by
  rw [u64_and (n : Int) 4294967295 (by omega) (by omega) (by omega) (by omega)]
  have e : (n : Int).toNat &&& (4294967295 : Int).toNat = n % 4294967296 := by
    rw [Int.toNat_natCast]; exact Nat.and_two_pow_sub_one_eq_mod n 32
  rw [e]; omega
theorem mul64_any (n : Nat) (hn : n < 1000000000) (w : World) : Calls Tryd.prog 31 #[.int .u64 1, .int .u64 n] w fun e w' => e = .returned (.tuple #[.int .u64 0, .int .u64 n]) ∧ w = w' := by
  have h1 := and32 n (by omega)
  have h2 : bits .and .u64 1 4294967295 = 1 := by decide
  have h3 : (n : Int) / 4294967296 = 0 := by omega
  have h4 : bits .and .u64 0 4294967295 = 0 := by decide
  go_enter Tryd.func31, Tryd.ntmps31
  go_wp2
  go_ret2
  refine ⟨?_, rfl⟩
  simp
theorem mul_any (n : Nat) (hn : n < 1000000000) (w : World) : Calls Tryd.prog 22 #[.int .u64 1, .int .u64 n] w fun e w' => e = .returned (.tuple #[.int .u64 0, .int .u64 n]) ∧ w = w' := by
  go_enter Tryd.func22, Tryd.ntmps22
  go_wp2_with (first | (go_at_call 31; refine (mul64_any n hn _).mono ?_; rintro e w' ⟨rfl, rfl⟩))
  go_ret2
  exact ⟨rfl, rfl⟩
/-- A row that is filled up to k. -/
def fillL (k n : Nat) : List Int := List.replicate k (-1) ++ List.replicate (n - k) 0
theorem fill_more (k m n : Nat) (h : k + m ≤ n) : splice (ints (fillL k n)) k (ints (List.replicate m (-1))) = ints (fillL (k + m) n) := by
  unfold splice fillL ints
  simp only [List.map_append, List.map_replicate, List.length_replicate]
  rw [List.take_append_of_le_length (by simp), List.take_of_length_le (by simp), List.drop_append]
  simp only [List.length_replicate, List.drop_replicate]
  rw [show k - (k + m) = 0 by omega, show k + m - k = m by omega, show n - k - m = n - (k + m) by omega]
  simp [← List.append_assoc]
theorem fill_len (k n : Nat) (h : k ≤ n) : (ints (fillL k n)).length = n := by simp [fillL, ints]; omega
theorem rep_len (m : Nat) : (ints (List.replicate m (-1))).length = m := by simp [ints]
theorem rep_one (m : Nat) : ∀ v ∈ ints (List.replicate m (-1)), v.oneCell' = true := by
  intro v hv
  simp only [ints, List.map_replicate] at hv
  obtain ⟨_, rfl⟩ := List.mem_replicate.1 hv
  rfl
theorem rep_at {m j : Nat} {v : Value} (h : (ints (List.replicate m (-1)))[j]? = some v) : j < m ∧ v = num (-1) := by
  have hj := (List.getElem?_eq_some_iff.1 h).1
  rw [rep_len] at hj
  simp only [ints, List.map_replicate, List.getElem?_replicate, hj, if_true, Option.some.injEq] at h
  exact ⟨hj, h.symm⟩
theorem fill_all (n : Nat) : fillL n n = List.replicate n (-1) := by simp [fillL]
theorem fill_at (k n j : Nat) (h : j < k) : (ints (fillL k n))[j]? = some (num (-1)) := by
  unfold fillL ints
  rw [List.map_append, List.getElem?_append_left (by simpa using h)]
  simp [h]
set_option maxHeartbeats 4000000 in
set_option maxRecDepth 20000 in
theorem repeat_any (n : Nat) (h1 : 1 ≤ n) (h2 : n < 1000000000) (b c : Nat) (w : World) (hb : w.cell? ⟨b, 0, none⟩ = some (num (-1))) (hbl : b < w.heap.size) :
    Calls Tryd.prog 16 #[.slice (some ⟨b, 0, none⟩) 1 c, num n] w fun e w' => ∃ g, e = .returned (.slice (some ⟨g, 0, none⟩) n n) ∧ MM.Row w' g 3 (ints (List.replicate n (-1))) ∧ w.heap.size ≤ g ∧ MM.Far [] w w' := by
  go_enter Tryd.func16, Tryd.ntmps16
  have hmk := run_make_row' (P := Tryd.prog) 32 3 (.int .i64 0) 8 ints_slice int_info rfl .i64 .i64 n (by omega) (by omega)
  rw [made_list] at hmk
  have hrow : MM.Row (w.alloc (.cells (List.replicate n (.int .i64 0)).toArray 3)) w.heap.size 3 (ints (fillL 0 n)) := by
    have := MM.Row.new w 3 (List.replicate n (.int .i64 0))
    unfold fillL ints
    simpa using this
  have hb1 : Below w.heap.size w (w.alloc (.cells (List.replicate n (.int .i64 0)).toArray 3)) := ((MM.Far.refl [] w).alloc _).below_nil
  have HB := Lib.hid hb
  have HROW := Lib.hid hrow
  have HB1 := Lib.hid hb1
  clear hrow hb1
  have HP1 : Hid (∀ dp : Option Addr, dp = some ⟨w.heap.size, 0, none⟩ → 0 < (ints (List.replicate 1 (-1))).length → dp = some ⟨w.heap.size, 0, none⟩ ∧ ∃ ad : Addr, (some ⟨b, 0, none⟩ : Option Addr) = some ad ∧ ∀ j v, (ints (List.replicate 1 (-1)))[j]? = some v → (w.alloc (.cells (List.replicate n (.int .i64 0)).toArray 3)).cell? (ad.add j) = some v) := Lib.hid (by
    intro dp e _
    refine ⟨e, _, rfl, fun j v hj => ?_⟩
    obtain ⟨hj1, rfl⟩ := rep_at hj
    obtain rfl : j = 0 := by omega
    rw [add_zero_]
    exact (Below.cell (HB1.out) hbl).trans HB.out)
  have HN1 : Hid ((ints (List.replicate 1 (-1))).length = Nat.min 1 n) := Lib.hid (by rw [rep_len]; show 1 = min 1 n; omega)
  have HF1 : Hid (0 + (ints (List.replicate 1 (-1))).length ≤ (ints (fillL 0 n)).length) := Lib.hid (by rw [rep_len, fill_len 0 n (by omega)]; omega)
  go_upto_region 7 with (first | (go_at_call 22; refine (mul_any n h2 _).mono ?_; rintro e w' ⟨rfl, rfl⟩))
  go_wp2_with (first
    | (refine wpList_copy_splice ?_ (.tmp 31) (.tmp 32) 32 32 ?_ 3 ints_slice int_size _ _ n n 1 c ?_ ?_ w.heap.size 0 (ints (fillL 0 n)) 3 HROW.out (ints (List.replicate 1 (-1))) HN1.out (HP1.out _ rfl) HF1.out (rep_one 1) w.heap.size w HB1.out (Nat.le_refl _) ?_
       · rfl
       · rfl
       · rfl
       · rfl
       intro w2 hg2 hb2))
  have HS0 : Hid (MM.Row w2 w.heap.size 3 (ints (fillL 1 n))) := Lib.hid (by
    have := hg2.out
    rw [fill_more 0 1 n (by omega)] at this
    exact this)
  have HB2 := Lib.hid hb2
  clear hg2 hb2 hmk HP1 HN1 HF1 HROW HB1 HB
  obtain ⟨g, hg⟩ : ∃ g, w.heap.size = g := ⟨_, rfl⟩
  rw [hg] at HS0
  rw [hg]
  have HGG := Lib.hid hg
  clear hg
  go_loopw [8] (fun s8 wr => ∃ k : Nat, 1 ≤ k ∧ k ≤ n ∧ s8 = num k ∧ Hid (MM.Row wr g 3 (ints (fillL k n))) ∧ Hid (Below w.heap.size w wr)) (fun s8 _ => n - (intOf s8).toNat)
  case atStart => exact ⟨1, by omega, h1, rfl, HS0, HB2⟩
  case round =>
    obtain ⟨k, hk1, hk, rfl, HR, HBk⟩ := hrel
    by_cases hlt : k < n
    · go_upto_region 9 with (fail)
      obtain ⟨m, hm⟩ : ∃ m, m = min k (n - k) := ⟨_, rfl⟩
      have hm1 : 1 ≤ m := by omega
      have hm2 : k + m ≤ n := by omega
      have HM := Lib.hid hm
      have HP1 : Hid (0 < (ints (List.replicate m (-1))).length → (if n = k then (some ⟨g, 0, none⟩ : Option Addr) else some ⟨g, k, none⟩) = some ⟨g, k, none⟩ ∧ ∃ ad : Addr, (some ⟨g, 0, none⟩ : Option Addr) = some ad ∧ ∀ j v, (ints (List.replicate m (-1)))[j]? = some v → wr.drew.cell? (ad.add j) = some v) := Lib.hid (by
        intro _
        refine ⟨by rw [if_neg (by omega)], _, rfl, fun j v hj => ?_⟩
        obtain ⟨hj1, rfl⟩ := rep_at hj
        rw [MM.head_add]
        exact HR.out.drew.at (fill_at k n j (by have := HM.out; omega)))
      have HN1 : Hid ((ints (List.replicate m (-1))).length = Nat.min k (n - k)) := Lib.hid (by rw [rep_len]; exact HM.out)
      have HBg : Hid (w.heap.size ≤ g) := Lib.hid (by rw [HGG.out]; exact Nat.le_refl _)
      have HRd : Hid (wr.drew.heap[g]? = some (.cells (ints (fillL k n)).toArray 3 (0, 0))) := HR
      have HBd : Hid (Below w.heap.size w wr.drew) := Lib.hid ⟨HBk.out.os, HBk.out.tape, HBk.out.output, HBk.out.size, HBk.out.block⟩
      have HF1 : Hid (k + (ints (List.replicate m (-1))).length ≤ (ints (fillL k n)).length) := Lib.hid (by rw [rep_len, fill_len k n hk]; exact hm2)
      have hgl := HR.out.lt
      have hwr : IntKind.i64.wrap ((k : Int) + (m : Int)) = (k : Int) + (m : Int) := wrap_id _ (by omega) (by omega)
      clear hm
      first | refine wp_region_noPanic ?_ | skip
      refine wp_region_held_drew (S := (fun w' : World => True)) (by kernel_rfl) trivial (fun hHeld => ?_)
      refine wpAnyH_take (i := 0) (oi := { dst := some 38, op := Op.move (Operand.tmp 8), type := 3, pos := "slices.go:528", after := #[], guard := none }) (v := ?v0) rfl (by kernel_rfl) (by kernel_rfl) (by kernel_rfl) (fun _ _ _ h => h) (Or.inl ⟨by rfl, ?hy0⟩) trivial ?rest0
      case hy0 => (intro w hSw; go_simp; try (with_reducible rfl))
      try simp only [Act.put, List.setIfInBounds_toArray, List.set_cons_zero, List.set_cons_succ]
      refine wpAnyH_take (i := 1) (oi := { dst := some 39, op := Op.move (Operand.tmp 7), type := 32, pos := "slices.go:528", after := #[], guard := none }) (v := ?v1) rfl (by kernel_rfl) (by kernel_rfl) (by kernel_rfl) (fun _ _ _ h => h) (Or.inl ⟨by rfl, ?hy1⟩) trivial ?rest1
      case hy1 => (intro w hSw; go_simp; try (with_reducible rfl))
      try simp only [Act.put, List.setIfInBounds_toArray, List.set_cons_zero, List.set_cons_succ]
      refine wpAnyH_take (i := 2) (oi := { dst := some 40, op := Op.move (Operand.tmp 8), type := 3, pos := "slices.go:528", after := #[], guard := none }) (v := ?v2) rfl (by kernel_rfl) (by kernel_rfl) (by kernel_rfl) (fun _ _ _ h => h) (Or.inl ⟨by rfl, ?hy2⟩) trivial ?rest2
      case hy2 => (intro w hSw; go_simp; try (with_reducible rfl))
      try simp only [Act.put, List.setIfInBounds_toArray, List.set_cons_zero, List.set_cons_succ]
      refine wpAnyH_take (i := 3) (oi := { dst := some 41, op := Op.slice 32 (Operand.tmp 39) (some (Operand.tmp 40)) none none, type := 32, pos := "slices.go:528", after := #[{ on := 1, ground := Ground.data }, { on := 2, ground := Ground.data }], guard := none }) (v := ?v3) rfl (by kernel_rfl) (by kernel_rfl) (by kernel_rfl) (fun _ _ _ h => h) (Or.inl ⟨by rfl, ?hy3⟩) trivial ?rest3
      case hy3 => (intro w hSw; go_simp; try (with_reducible rfl))
      try simp only [Act.put, List.setIfInBounds_toArray, List.set_cons_zero, List.set_cons_succ]
      refine wpAnyH_take (i := 4) (oi := { dst := some 42, op := Op.move (Operand.tmp 7), type := 32, pos := "slices.go:528", after := #[], guard := none }) (v := ?v4) rfl (by kernel_rfl) (by kernel_rfl) (by kernel_rfl) (fun _ _ _ h => h) (Or.inl ⟨by rfl, ?hy4⟩) trivial ?rest4
      case hy4 => (intro w hSw; go_simp; try (with_reducible rfl))
      try simp only [Act.put, List.setIfInBounds_toArray, List.set_cons_zero, List.set_cons_succ]
      refine wpAnyH_take (i := 5) (oi := { dst := some 43, op := Op.move (Operand.tmp 8), type := 3, pos := "slices.go:528", after := #[], guard := none }) (v := ?v5) rfl (by kernel_rfl) (by kernel_rfl) (by kernel_rfl) (fun _ _ _ h => h) (Or.inl ⟨by rfl, ?hy5⟩) trivial ?rest5
      case hy5 => (intro w hSw; go_simp; try (with_reducible rfl))
      try simp only [Act.put, List.setIfInBounds_toArray, List.set_cons_zero, List.set_cons_succ]
      refine wpAnyH_take (i := 6) (oi := { dst := some 44, op := Op.slice 32 (Operand.tmp 42) none (some (Operand.tmp 43)) none, type := 32, pos := "slices.go:528", after := #[{ on := 4, ground := Ground.data }, { on := 5, ground := Ground.data }], guard := none }) (v := ?v6) rfl (by kernel_rfl) (by kernel_rfl) (by kernel_rfl) (fun _ _ _ h => h) (Or.inl ⟨by rfl, ?hy6⟩) trivial ?rest6
      case hy6 => (intro w hSw; go_simp; try (with_reducible rfl))
      try simp only [Act.put, List.setIfInBounds_toArray, List.set_cons_zero, List.set_cons_succ]
      refine wpAnyH_ready (rs := [7]) (by kernel_rfl) (by simp) ?_
      refine AllReadyH.cons (o := { dst := some 45, op := Op.call { callee := Callee.builtin Builtin.copy, args := #[Operand.tmp 41, Operand.tmp 44], argTypes := #[32, 32] }, type := 3, pos := "slices.go:528", after := #[{ on := 3, ground := Ground.data }, { on := 6, ground := Ground.data }], guard := none }) rfl (fun K hK => ?_) AllReadyH.nil
      refine step_copy_splice ?_ (.tmp 41) (.tmp 44) 32 32 ?_ 3 ints_slice int_size _ _ (n - k) (n - k) k n ?_ ?_ g k (ints (fillL k n)) 3 HRd.out (ints (List.replicate m (-1))) HN1.out HP1.out HF1.out (rep_one m) w.heap.size w HBd.out HBg.out ?_
      · rfl
      · rfl
      · rfl
      · rfl
      intro w3 hg3 hb3
      have HR3 : Hid (MM.Row w3 g 3 (ints (fillL (k + m) n))) := Lib.hid (by
        have := hg3.out
        rw [fill_more k m n hm2] at this
        exact this)
      have HB3 := Lib.hid hb3
      clear hg3 hb3
      refine hK.out _ _ trivial (fun hHeld => ?_)
      clear hK K
      rw [rep_len]
      try simp only [Act.put, List.setIfInBounds_toArray, List.set_cons_zero, List.set_cons_succ]
      refine wpAnyH_take (i := 8) (oi := { dst := some 46, op := Op.binOp BinOp.add 3 (Operand.tmp 38) (Operand.tmp 45) 3, type := 3, pos := "slices.go:528", after := #[{ on := 0, ground := Ground.data }, { on := 7, ground := Ground.data }], guard := none }) (v := ?v8) rfl (by kernel_rfl) (by kernel_rfl) (by kernel_rfl) (fun _ _ _ h => h) (Or.inl ⟨by rfl, ?hy8⟩) trivial ?rest8
      case hy8 => (intro w hSw; go_simp; try (with_reducible rfl))
      try simp only [Act.put, List.setIfInBounds_toArray, List.set_cons_zero, List.set_cons_succ]
      refine wpAnyH_take (i := 9) (oi := { dst := some 8, op := Op.assign (Operand.tmp 46), type := 3, pos := "slices.go:528", after := #[{ on := 8, ground := Ground.data }, { on := 7, ground := Ground.chain }, { on := 0, ground := Ground.phase }, { on := 1, ground := Ground.phase }, { on := 2, ground := Ground.phase }, { on := 3, ground := Ground.phase }, { on := 4, ground := Ground.phase }, { on := 5, ground := Ground.phase }, { on := 6, ground := Ground.phase }, { on := 7, ground := Ground.phase }, { on := 8, ground := Ground.phase }], guard := none }) (v := ?v9) rfl (by kernel_rfl) (by kernel_rfl) (by kernel_rfl) (fun _ _ _ h => h) (Or.inl ⟨by rfl, ?hy9⟩) trivial ?rest9
      case hy9 => (intro w hSw; go_simp; try (with_reducible rfl))
      try simp only [Act.put, List.setIfInBounds_toArray, List.set_cons_zero, List.set_cons_succ]
      refine wpAnyH_done (by kernel_rfl) ?_ _
      first | refine NoPanic.normal ?_ | skip
      go_wp2_with (fail)
      go_roundw
      case rel => exact ⟨k + m, by omega, hm2, by go_num, HR3, HB3⟩
      case measure => simp [intOf]; omega
    · obtain rfl : k = n := by omega
      go_wp2_with (fail)
      go_ret
      refine ⟨g, rfl, by rw [← fill_all]; exact HR.out, by rw [HGG.out]; exact Nat.le_refl _, MM.Far.of_below HBk.out []⟩
end KW
end Go.Proofs.YthhibcfljekibaaDoor
