/-
  P6.1's law whole: the code's May and the document's for any row; few; the argument's reading. Conditions: sizes; the argument's reading.
-/
import Derived.Test.YtaghlpolljaedaaGreatReadMays
import Derived.ChangeArms
import Derived.Deep.DeepCutAuto
namespace Go.Proofs.YtaghlpolljaedaaGreat
open Go.RowKit
set_option linter.unusedVariables false
namespace RW6
open LX RX RM6
set_option maxHeartbeats 4000000 in
set_option maxRecDepth 20000 in
theorem may_any (ns : List Ni) (n : Nat) (hn : ns.length = n) (hn2 : n ≤ 100000) (hl : ∀ x ∈ ns, x.l.length ≤ 100000) (A : Option Addr) (c : Nat) (w : World) (hN : NiRow w [] A ns) :
    Calls Tryz.prog 15 #[.slice A n c] w fun e w' => e = .returned (.bool (may ns)) ∧ MM.Far [] w w' := by
  obtain ⟨R, hR⟩ : ∃ R, may ns = R := ⟨_, rfl⟩
  rw [hR]
  unfold may at hR
  have HR := Lib.hid hR
  have HN := Lib.hid hn
  have HL := Lib.hid hl
  have HNi := Lib.hid hN
  clear hR hn hl hN
  go_enter Tryz.func15, Tryz.ntmps15
  have hmk := run_make_row' (P := Tryz.prog) 70 4 (.bool false) 1 bools_slice bool_info rfl .i64 .i64 n (by omega) (by omega)
  rw [made_list] at hmk
  go_wp2
  clear hmk
  have HI0 : Hid (MayI w w.heap.size ns R 0 (w.alloc (.cells (List.replicate n (.bool false)).toArray 4))) := Lib.hid
    ⟨List.replicate n false, by rw [bools_rep]; exact MM.Row.new w 4 (List.replicate n (.bool false)), (MM.Far.refl [] w).alloc _, by rw [List.length_replicate, HN.out], by rw [List.drop_zero, ← HR.out, HN.out]⟩
  have HNb : Hid (NiRow (w.alloc (.cells (List.replicate n (.bool false)).toArray 4)) [w.heap.size] A ns) := Lib.hid (HNi.out.new ((MM.Far.refl [] w).alloc _) _ (Nat.le_refl _))
  obtain ⟨tb, htb⟩ : ∃ tb, w.heap.size = tb := ⟨_, rfl⟩
  rw [htb] at HI0 HNb
  rw [htb]
  have HTB := Lib.hid htb
  clear htb
  have HF0 : Hid (MM.Far [tb] (w.alloc (.cells (List.replicate n (.bool false)).toArray 4)) (w.alloc (.cells (List.replicate n (.bool false)).toArray 4))) := Lib.hid (MM.Far.refl _ _)
  go_loopw [11] (fun s11 wr => ∃ k : Nat, k ≤ n ∧ s11 = .int .i64 k ∧ Hid (MayI w tb ns R k wr) ∧ Hid (MM.Far [tb] (w.alloc (.cells (List.replicate n (.bool false)).toArray 4)) wr)) (fun s11 _ => n - (intOf s11).toNat)
  case atStart => exact ⟨0, by omega, rfl, HI0, HF0⟩
  case round =>
    obtain ⟨k, hk, rfl, hI, hF⟩ := hrel
    obtain ⟨tk, hB, hFw, hlen, hG⟩ := hI.out
    clear hI HI0 HF0
    by_cases hlt : k < n
    · have hk2 : k < ns.length := by rw [HN.out]; exact hlt
      obtain ⟨b, o, LA, lc, rfl, hbS, hb, c0, c1, c2, c3, c4, hL⟩ := (HNb.out.far hF.out) k hk2
      rw [List.drop_eq_getElem_cons hk2] at hG
      have hml := HL.out _ (List.getElem_mem hk2)
      generalize ns[k] = x at *
      obtain ⟨kd, at_, nn, s, l⟩ := x
      simp only at c0 c1 c2 c3 c4 hL hml
      unfold mayG at hG
      simp only at hG
      obtain ⟨m, hm⟩ : ∃ m, l.length = m := ⟨_, rfl⟩
      rw [hm] at c4 hml hG
      have HM := Lib.hid hm
      obtain ⟨ok, hok⟩ : ∃ ok, okF kd at_ nn s m = ok := ⟨_, rfl⟩
      rw [hok] at hG
      have HC := Lib.hid (has_any kd at_ nn s LA m lc hml)
      rw [hok] at HC
      obtain ⟨bx, hbx⟩ : ∃ bx, wr.heap.size = bx := ⟨_, rfl⟩
      have HBX := Lib.hid (hbx ▸ MM.Row.new wr 53 [.int .u8 kd, .int .i64 at_, .int .i64 nn, .string s, .slice LA m lc])
      have HBXE := Lib.hid hbx
      have FA := (MM.Far.refl [] wr).alloc (.cells #[.int .u8 kd, .int .i64 at_, .int .i64 nn, .string s, .slice LA m lc] 53)
      have HTR := Lib.hid (hB.far FA (by simp))
      have HFw := Lib.hid (hFw.trans FA (by simp))
      have HFt := Lib.hid (hF.out.trans FA (by simp))
      have HIR := Lib.hid (hL.far (FA.mono (S' := [tb]) (by simp)))
      have HLEN := Lib.hid hlen
      have HG := Lib.hid hG
      have htbx : tb < bx := by rw [← hbx]; exact hB.lt
      clear hk2 hG hok hbx FA hB hFw hlen hL hF hm hbS
      cases ok with
      | false =>
        have HG2 : Hid (R = false) := Lib.hid (by have := HG.out; simpa using this.symm)
        clear HG
        go_wp2
        rw [HBXE.out]
        obtain ⟨y0, y1, y2, y3, y4⟩ := row_five HBX.out
        first | refine wp_region_noPanic ?_ | skip
        refine wp_region_held_drew (S := (fun w' : World => w'.cell? ⟨bx, 0, none⟩ = some (.int .u8 kd) ∧ w'.cell? ⟨bx, 1, none⟩ = some (.int .i64 at_) ∧ w'.cell? ⟨bx, 2, none⟩ = some (.int .i64 nn) ∧ w'.cell? ⟨bx, 3, none⟩ = some (.string s) ∧ w'.cell? ⟨bx, 4, none⟩ = some (.slice LA m lc))) (by kernel_rfl) ?_ (fun hHeld => ?_)
        · go_keep
        refine wpAnyH_take (i := 0) (oi := { dst := some 16, op := Op.load 53 (Operand.tmp 5), type := 53, pos := "read.go:130", after := #[], guard := none }) (v := ?v0) rfl (by kernel_rfl) (by kernel_rfl) (by kernel_rfl) (fun _ _ _ h => h) (Or.inl ⟨by rfl, ?hy0⟩) (by assumption) ?rest0
        case hy0 => (intro w hSw; (try dsimp only at hSw); go_simp; try (with_reducible rfl))
        try simp only [Act.put, List.setIfInBounds_toArray, List.set_cons_zero, List.set_cons_succ]
        refine wpAnyH_ready (rs := [1]) (by kernel_rfl) (by simp) ?_
        refine AllReadyH.cons (o := { dst := some 17, op := Op.call { callee := Callee.value (Operand.func 24), args := #[Operand.tmp 16], argTypes := #[53] }, type := 4, pos := "read.go:130", after := #[{ on := 0, ground := Ground.data }], guard := none }) rfl (fun K hK => ?_) AllReadyH.nil
        go_simp
        go_at_call 24
        (with_reducible refine (HC.out _).mono ?_)
        rintro e w5 ⟨rfl, hF5⟩
        have hS5 : w5.cell? ⟨bx, 0, none⟩ = some (.int .u8 kd) ∧ w5.cell? ⟨bx, 1, none⟩ = some (.int .i64 at_) ∧ w5.cell? ⟨bx, 2, none⟩ = some (.int .i64 nn) ∧ w5.cell? ⟨bx, 3, none⟩ = some (.string s) ∧ w5.cell? ⟨bx, 4, none⟩ = some (.slice LA m lc) := far_five hF5 (by first | exact hHeld | exact ⟨y0, y1, y2, y3, y4⟩ | go_keep)
        have HFw5 := Lib.hid (far_dt HFw.out hF5 (by first | exact .inl rfl | exact .inr rfl))
        clear hF5
        refine hK.out _ _ ?_ (fun hHeld => ?_)
        · try dsimp only
          exact hS5
        clear hK K
        try simp only [Act.put, List.setIfInBounds_toArray, List.set_cons_zero, List.set_cons_succ]
        refine wpAnyH_take (i := 2) (oi := { dst := some 18, op := Op.unOp UnOp.not 4 (Operand.tmp 17), type := 4, pos := "read.go:130", after := #[{ on := 1, ground := Ground.data }], guard := none }) (v := ?v2) rfl (by kernel_rfl) (by kernel_rfl) (by kernel_rfl) (fun _ _ _ h => h) (Or.inl ⟨by rfl, ?hy2⟩) (by assumption) ?rest2
        case hy2 => (intro w hSw; (try dsimp only at hSw); go_simp; try (with_reducible rfl))
        try simp only [Act.put, List.setIfInBounds_toArray, List.set_cons_zero, List.set_cons_succ]
        refine wpAnyH_take (i := 3) (oi := { dst := some 19, op := Op.move (Operand.tmp 18), type := 4, pos := "read.go:130", after := #[{ on := 2, ground := Ground.data }, { on := 1, ground := Ground.chain }], guard := none }) (v := ?v3) rfl (by kernel_rfl) (by kernel_rfl) (by kernel_rfl) (fun _ _ _ h => h) (Or.inl ⟨by rfl, ?hy3⟩) (by assumption) ?rest3
        case hy3 => (intro w hSw; (try dsimp only at hSw); go_simp; try (with_reducible rfl))
        try simp only [Act.put, List.setIfInBounds_toArray, List.set_cons_zero, List.set_cons_succ]
        refine wpAnyH_take (i := 4) (oi := { dst := some 20, op := Op.move (Operand.tmp 3), type := 70, pos := "read.go:130", after := #[{ on := 3, ground := Ground.guard }], guard := some (3, false) }) (v := undef) rfl (by kernel_rfl) (by kernel_rfl) (by kernel_rfl) (fun _ _ _ h => h) (Or.inr ⟨by rfl, rfl⟩) (by assumption) ?_
        try simp only [Act.put, List.setIfInBounds_toArray, List.set_cons_zero, List.set_cons_succ]
        refine wpAnyH_take (i := 5) (oi := { dst := some 21, op := Op.move (Operand.tmp 4), type := 3, pos := "read.go:130", after := #[{ on := 3, ground := Ground.guard }], guard := some (3, false) }) (v := undef) rfl (by kernel_rfl) (by kernel_rfl) (by kernel_rfl) (fun _ _ _ h => h) (Or.inr ⟨by rfl, rfl⟩) (by assumption) ?_
        try simp only [Act.put, List.setIfInBounds_toArray, List.set_cons_zero, List.set_cons_succ]
        refine wpAnyH_take (i := 6) (oi := { dst := some 22, op := Op.slice 70 (Operand.tmp 20) none (some (Operand.tmp 21)) none, type := 70, pos := "read.go:130", after := #[{ on := 4, ground := Ground.data }, { on := 5, ground := Ground.data }, { on := 3, ground := Ground.guard }], guard := some (3, false) }) (v := undef) rfl (by kernel_rfl) (by kernel_rfl) (by kernel_rfl) (fun _ _ _ h => h) (Or.inr ⟨by rfl, rfl⟩) (by assumption) ?_
        try simp only [Act.put, List.setIfInBounds_toArray, List.set_cons_zero, List.set_cons_succ]
        refine wpAnyH_take (i := 7) (oi := { dst := some 23, op := Op.fieldAddr 53 (Operand.tmp 5) 4, type := 0, pos := "read.go:130", after := #[{ on := 3, ground := Ground.guard }], guard := some (3, false) }) (v := undef) rfl (by kernel_rfl) (by kernel_rfl) (by kernel_rfl) (fun _ _ _ h => h) (Or.inr ⟨by rfl, rfl⟩) (by assumption) ?_
        try simp only [Act.put, List.setIfInBounds_toArray, List.set_cons_zero, List.set_cons_succ]
        refine wpAnyH_take (i := 8) (oi := { dst := some 24, op := Op.load 23 (Operand.tmp 23), type := 23, pos := "read.go:130", after := #[{ on := 7, ground := Ground.data }, { on := 3, ground := Ground.guard }], guard := some (3, false) }) (v := undef) rfl (by kernel_rfl) (by kernel_rfl) (by kernel_rfl) (fun _ _ _ h => h) (Or.inr ⟨by rfl, rfl⟩) (by assumption) ?_
        try simp only [Act.put, List.setIfInBounds_toArray, List.set_cons_zero, List.set_cons_succ]
        refine wpAnyH_take (i := 9) (oi := { dst := some 25, op := Op.call { callee := Callee.value (Operand.func 25), args := #[Operand.tmp 22, Operand.tmp 24], argTypes := #[70, 23] }, type := 4, pos := "read.go:130", after := #[{ on := 6, ground := Ground.data }, { on := 8, ground := Ground.data }, { on := 3, ground := Ground.chain }, { on := 3, ground := Ground.guard }], guard := some (3, false) }) (v := undef) rfl (by kernel_rfl) (by kernel_rfl) (by kernel_rfl) (fun _ _ _ h => h) (Or.inr ⟨by rfl, rfl⟩) (by assumption) ?_
        try simp only [Act.put, List.setIfInBounds_toArray, List.set_cons_zero, List.set_cons_succ]
        refine wpAnyH_take (i := 10) (oi := { dst := some 26, op := Op.unOp UnOp.not 4 (Operand.tmp 25), type := 4, pos := "read.go:130", after := #[{ on := 9, ground := Ground.data }, { on := 3, ground := Ground.guard }], guard := some (3, false) }) (v := undef) rfl (by kernel_rfl) (by kernel_rfl) (by kernel_rfl) (fun _ _ _ h => h) (Or.inr ⟨by rfl, rfl⟩) (by assumption) ?_
        try simp only [Act.put, List.setIfInBounds_toArray, List.set_cons_zero, List.set_cons_succ]
        refine wpAnyH_take (i := 11) (oi := { dst := some 27, op := Op.pick (Operand.tmp 19) (Operand.const (Value.bool true)) (Operand.tmp 26), type := 4, pos := "read.go:130", after := #[{ on := 3, ground := Ground.data }, { on := 10, ground := Ground.data }], guard := none }) (v := ?v11) rfl (by kernel_rfl) (by kernel_rfl) (by kernel_rfl) (fun _ _ _ h => h) (Or.inl ⟨by rfl, ?hy11⟩) (by assumption) ?rest11
        case hy11 => (intro w hSw; (try dsimp only at hSw); go_simp; try (with_reducible rfl))
        try simp only [Act.put, List.setIfInBounds_toArray, List.set_cons_zero, List.set_cons_succ]
        refine wpAnyH_done (by kernel_rfl) ?_ _
        first | refine NoPanic.normal ?_ | skip
        go_wp2
        go_ret
        exact ⟨by rw [HG2.out]; rfl, HFw5.out⟩
      | true =>
        obtain ⟨T, hT⟩ : ∃ T, takeL k l tk = T := ⟨_, rfl⟩
        have HTK := Lib.hid hT
        have hG2 := HG.out
        rw [if_neg (by simp), hT] at hG2
        have HG2 := Lib.hid hG2
        clear HG hT hG2
        go_wp2
        rw [HBXE.out]
        obtain ⟨y0, y1, y2, y3, y4⟩ := row_five HBX.out
        cases T with
        | none =>
          have HG3 : Hid (R = false) := Lib.hid HG2.out.symm
          go_region_held3 (fun w' => w'.cell? ⟨bx, 0, none⟩ = some (.int .u8 kd) ∧ w'.cell? ⟨bx, 1, none⟩ = some (.int .i64 at_) ∧ w'.cell? ⟨bx, 2, none⟩ = some (.int .i64 nn) ∧ w'.cell? ⟨bx, 3, none⟩ = some (.string s) ∧ w'.cell? ⟨bx, 4, none⟩ = some (.slice LA m lc)) (go_keep) (first
            | (go_at_call 24
               (with_reducible refine (HC.out _).mono ?_)
               rintro e w5 ⟨rfl, hF5⟩
               have hS5 : w5.cell? ⟨bx, 0, none⟩ = some (.int .u8 kd) ∧ w5.cell? ⟨bx, 1, none⟩ = some (.int .i64 at_) ∧ w5.cell? ⟨bx, 2, none⟩ = some (.int .i64 nn) ∧ w5.cell? ⟨bx, 3, none⟩ = some (.string s) ∧ w5.cell? ⟨bx, 4, none⟩ = some (.slice LA m lc) := far_five hF5 (by assumption)
               obtain ⟨y0, y1, y2, y3, y4⟩ := hS5
               have HFw5 := Lib.hid (far_dt HFw.out hF5 (by first | exact .inl rfl | exact .inr rfl))
               have HFt5 := Lib.hid (far_dt HFt.out hF5 (by first | exact .inl rfl | exact .inr rfl))
               have HTR5 := Lib.hid (row_dt HTR.out hF5 (by first | exact .inl rfl | exact .inr rfl))
               have HIR5 := Lib.hid (HIR.out.far (far_dt (MM.Far.refl [tb] _) hF5 (by first | exact .inl rfl | exact .inr rfl)))
               clear hF5)
            | (go_at_call 25
               (refine (take_all tb k n tk (by have := HLEN.out; have := HN.out; omega) (by omega) (by omega) l m HM.out hml LA lc _ (row_drew HTR5.out (by first | exact .inl rfl | exact .inr rfl)) (irow_drew HIR5.out (by first | exact .inl rfl | exact .inr rfl))).mono ?_)
               rintro e w6 ⟨hF6, h6⟩
               rw [HTK.out] at h6
               obtain rfl := h6
               have hS6 : w6.cell? ⟨bx, 0, none⟩ = some (.int .u8 kd) ∧ w6.cell? ⟨bx, 1, none⟩ = some (.int .i64 at_) ∧ w6.cell? ⟨bx, 2, none⟩ = some (.int .i64 nn) ∧ w6.cell? ⟨bx, 3, none⟩ = some (.string s) ∧ w6.cell? ⟨bx, 4, none⟩ = some (.slice LA m lc) := far_five_at hF6 (by simp only [List.mem_singleton]; omega) (by assumption)
               obtain ⟨y0, y1, y2, y3, y4⟩ := hS6
               have HFw6 := Lib.hid (far_dtS HFw5.out hF6 (by first | exact .inl rfl | exact .inr rfl) (fun h => by have := HTB.out; omega))
               have HFt6 := Lib.hid (far_dtS HFt5.out hF6 (by first | exact .inl rfl | exact .inr rfl) (fun _ => by simp))
               clear hF6))
          go_wp2
          go_ret
          exact ⟨by rw [HG3.out]; rfl, HFw6.out⟩
        | some tk2 =>
          have HG3 : Hid (mayG (ns.drop (k + 1)) (k + 1) tk2 = R) := Lib.hid HG2.out
          go_region_held3 (fun w' => w'.cell? ⟨bx, 0, none⟩ = some (.int .u8 kd) ∧ w'.cell? ⟨bx, 1, none⟩ = some (.int .i64 at_) ∧ w'.cell? ⟨bx, 2, none⟩ = some (.int .i64 nn) ∧ w'.cell? ⟨bx, 3, none⟩ = some (.string s) ∧ w'.cell? ⟨bx, 4, none⟩ = some (.slice LA m lc)) (go_keep) (first
            | (go_at_call 24
               (with_reducible refine (HC.out _).mono ?_)
               rintro e w5 ⟨rfl, hF5⟩
               have hS5 : w5.cell? ⟨bx, 0, none⟩ = some (.int .u8 kd) ∧ w5.cell? ⟨bx, 1, none⟩ = some (.int .i64 at_) ∧ w5.cell? ⟨bx, 2, none⟩ = some (.int .i64 nn) ∧ w5.cell? ⟨bx, 3, none⟩ = some (.string s) ∧ w5.cell? ⟨bx, 4, none⟩ = some (.slice LA m lc) := far_five hF5 (by assumption)
               obtain ⟨y0, y1, y2, y3, y4⟩ := hS5
               have HFw5 := Lib.hid (far_dt HFw.out hF5 (by first | exact .inl rfl | exact .inr rfl))
               have HFt5 := Lib.hid (far_dt HFt.out hF5 (by first | exact .inl rfl | exact .inr rfl))
               have HTR5 := Lib.hid (row_dt HTR.out hF5 (by first | exact .inl rfl | exact .inr rfl))
               have HIR5 := Lib.hid (HIR.out.far (far_dt (MM.Far.refl [tb] _) hF5 (by first | exact .inl rfl | exact .inr rfl)))
               clear hF5)
            | (go_at_call 25
               (refine (take_all tb k n tk (by have := HLEN.out; have := HN.out; omega) (by omega) (by omega) l m HM.out hml LA lc _ (row_drew HTR5.out (by first | exact .inl rfl | exact .inr rfl)) (irow_drew HIR5.out (by first | exact .inl rfl | exact .inr rfl))).mono ?_)
               rintro e w6 ⟨hF6, h6⟩
               rw [HTK.out] at h6
               obtain ⟨rfl, hR6⟩ := h6
               have HR6 := Lib.hid hR6
               clear hR6
               have hS6 : w6.cell? ⟨bx, 0, none⟩ = some (.int .u8 kd) ∧ w6.cell? ⟨bx, 1, none⟩ = some (.int .i64 at_) ∧ w6.cell? ⟨bx, 2, none⟩ = some (.int .i64 nn) ∧ w6.cell? ⟨bx, 3, none⟩ = some (.string s) ∧ w6.cell? ⟨bx, 4, none⟩ = some (.slice LA m lc) := far_five_at hF6 (by simp only [List.mem_singleton]; omega) (by assumption)
               obtain ⟨y0, y1, y2, y3, y4⟩ := hS6
               have HFw6 := Lib.hid (far_dtS HFw5.out hF6 (by first | exact .inl rfl | exact .inr rfl) (fun h => by have := HTB.out; omega))
               have HFt6 := Lib.hid (far_dtS HFt5.out hF6 (by first | exact .inl rfl | exact .inr rfl) (fun _ => by simp))
               clear hF6))
          go_wp2
          go_roundw
          case rel => exact ⟨k + 1, by omega, by go_num, Lib.hid ⟨tk2, HR6.out, HFw6.out, by rw [takeL_len _ _ _ _ HTK.out]; exact HLEN.out, HG3.out⟩, HFt6⟩
          case measure => simp [intOf]; omega
    · obtain rfl : k = n := by omega
      rw [List.drop_of_length_le (by rw [HN.out]; exact Nat.le_refl _)] at hG
      have HG2 : Hid (true = R) := Lib.hid hG
      have HFw := Lib.hid hFw
      clear hG hB hFw hlen hF
      go_wp2
      go_ret
      exact ⟨by rw [← HG2.out]; rfl, HFw.out⟩
end RW6
end Go.Proofs.YtaghlpolljaedaaGreat
namespace Go.Proofs.YtaghlpolljaedaaGreat
open Go.RowKit
set_option linter.unusedVariables false
namespace RW6
open LX RX RM6
set_option maxHeartbeats 2000000 in
set_option maxRecDepth 20000 in
theorem right_any (kd at_ n : Int) (s : ByteArray) (LA : Option Addr) (len c : Nat) (hl : len ≤ 100000) (w : World) :
    Calls Tryz.prog 30 #[.agg #[.int .u8 kd, .int .i64 at_, .int .i64 n, .string s, .slice LA len c]] w fun e w' => e = .returned (.bool (okF kd at_ n s len)) ∧ MM.Far [] w w' := by
  by_cases h0 : at_ < 0
  · have HE := Lib.hid (show okF kd at_ n s len = false by unfold okF; rw [if_pos h0])
    rw [HE.out]
    clear HE
    go_enter Tryz.func30, Tryz.ntmps30
    go_wp2
    go_ret
    exact ⟨rfl, (MM.Far.refl [] w).alloc _⟩
  · obtain ⟨b, hb⟩ : ∃ b, okF kd at_ n s len = b := ⟨_, rfl⟩
    rw [hb]
    have H0 := Lib.hid h0
    have HL := Lib.hid hl
    rcases (show (kd = 1 ∨ kd = 2 ∨ kd = 3 ∨ kd = 4 ∨ (kd ≠ 1 ∧ kd ≠ 2 ∧ kd ≠ 3 ∧ kd ≠ 4)) by omega) with rfl | rfl | rfl | rfl | ⟨k1, k2, k3, k4⟩
    case' inr.inr.inr.inr =>
      have d1 : (kd == 1) = false := by rw [beq_eq_false_iff_ne]; exact k1
      have d2 : (kd == 2) = false := by rw [beq_eq_false_iff_ne]; exact k2
      have d3 : (kd == 3) = false := by rw [beq_eq_false_iff_ne]; exact k3
      have d4 : (kd == 4) = false := by rw [beq_eq_false_iff_ne]; exact k4
      have d5 : (kd != 3) = true := by rw [bne_iff_ne]; exact k3
      have d6 : (kd != 4) = true := by rw [bne_iff_ne]; exact k4
    all_goals
      rcases (show (s.size = 0 ∨ s.size ≠ 0) by omega) with hs | hs
      case' inl =>
        have HS := Lib.hid hs
        obtain rfl := size_zero hs
        clear hs
      case' inr =>
        have HS := Lib.hid hs
        have e1 := toList_ne hs
        have e2 : (s.toList == []) = false := by rw [beq_eq_false_iff_ne]; exact e1
        have e6 : (s.toList != []) = true := by rw [bne_iff_ne]; exact e1
        clear hs
      all_goals
        rcases (show (len = 0 ∨ len ≠ 0) by omega) with hn | hn
        case' inl =>
          have HN := Lib.hid hn
          subst hn
        case' inr =>
          have HN := Lib.hid hn
          have e3 : decide ((0 : Int) < (len : Int)) = true := by rw [decide_eq_true_iff]; omega
          have e7 : (0 : Int) < (len : Int) := by omega
          have e8 : 0 < len := by omega
          clear hn
        all_goals
          rcases (show (n = 0 ∨ n = 1 ∨ (n ≠ 0 ∧ n ≠ 1)) by omega) with rfl | rfl | ⟨m1, m2⟩
          case' inr.inr =>
            have e4 : (n == 0) = false := by rw [beq_eq_false_iff_ne]; exact m1
            have e5 : (n == 1) = false := by rw [beq_eq_false_iff_ne]; exact m2
          all_goals
            have HE := Lib.hid hb
            clear hb
            go_enter Tryz.func30, Tryz.ntmps30
            go_wp2
            go_ret
            refine ⟨?_, (MM.Far.refl [] w).alloc _⟩
            rw [← HE.out]
            have g0 := H0.out
            have gs := HS.out
            have gn := HN.out
            simp [okF, *]
end RW6
end Go.Proofs.YtaghlpolljaedaaGreat
namespace Go.Proofs.YtaghlpolljaedaaGreat
open Go.RowKit Go.ChangeShapes Go.WideShapes Go.Deep
namespace RW6
/-- One datum of the argument. -/
structure Na where
  k : Int
  at_ : Int
  n : Int
  s : ByteArray
  A : Option Addr
  l : Nat
  c : Nat
  zs : List Int
def Na.cells (a : Na) : List Value := [.int .u8 a.k, .int .i64 a.at_, .int .i64 a.n, .string a.s, .slice a.A a.l a.c]
structure Na.Ok (w : World) (a : Na) : Prop where
  hk : (Lit.int .u8 a.k).wf = true
  hn : (Lit.int .i64 a.at_).wf = true
  hi : (Lit.int .i64 a.n).wf = true
  hs : a.s.size ≤ maxLen
  hz : MR.Ints .i64 w a.A a.l a.c a.zs
structure Nas (w : World) (a : Option Addr) (len cap : Nat) (tl : List Na) : Prop where
  len_ : tl.length = len
  le : len ≤ cap
  max : cap ≤ maxLen
  nil : a = none → cap = 0
  elems : ∀ (i : Nat) (t : Na), tl[i]? = some t → ∃ b off, a = some ⟨b, off, none⟩ ∧ b < w.heap.size ∧ (∀ (j : Nat) (u : Value), t.cells[j]? = some u → w.cell? ⟨b, off + i * 5 + j, none⟩ = some u) ∧ t.Ok w
section
variable {H : Type} {enc : TypeId × Value → H} {w : World} {fuel : Nat}
theorem stn_of {P : Program} {t : TypeId} {cs : List Value} {x : DataW H × List MemPlace} (ht : P.underlying t = some .string) (h : DataW.trod enc P w 0 (fun _ => true) true fuel t cs = some x) : ∃ s, cs = [.string s] ∧ s.size ≤ maxLen := by
  obtain ⟨s, h1, _, h2⟩ := DataW.trod_string ht h
  exact ⟨s, h1, h2⟩
theorem na_of {cs : List Value} {x : DataW H × List MemPlace} (h : DataW.trod enc Tryz.prog w 0 (fun _ => true) true fuel 53 cs = some x) : ∃ t : Na, cs = t.cells ∧ t.Ok w := by
  obtain ⟨hl, hf⟩ := MR.field_of Tryz.underlying53 (by kernel_rfl) (by kernel_rfl) h
  obtain ⟨v0, n0, y0, e0, g0⟩ := hf 0 _ rfl
  obtain ⟨v1, n1, y1, e1, g1⟩ := hf 1 _ rfl
  obtain ⟨v2, n2, y2, e2, g2⟩ := hf 2 _ rfl
  obtain ⟨v3, n3, y3, e3, g3⟩ := hf 3 _ rfl
  obtain ⟨v4, n4, y4, e4, g4⟩ := hf 4 _ rfl
  obtain ⟨a0, h0, w0⟩ := MR.int_of Tryz.underlying5 g0
  obtain ⟨a1, h1, w1⟩ := MR.int_of Tryz.underlying3 g1
  obtain ⟨a2, h2, w2⟩ := MR.int_of Tryz.underlying3 g2
  obtain ⟨a3, h3, w3⟩ := stn_of Tryz.underlying9 g3
  obtain ⟨A, l, c, zs, h4, w4⟩ := MR.ints_of Tryz.underlying23 Tryz.underlying3 (by kernel_rfl) g4
  cases h0; cases h1; cases h2; cases h3; cases h4
  refine ⟨⟨a0, a1, a2, a3, A, l, c, zs⟩, ?_, w0, w1, w2, w3, w4⟩
  have hl6 : cs.length = 5 := hl
  match cs, hl6 with
  | [b0, b1, b2, b3, b4], _ =>
    simp at e0 e1 e2 e3 e4
    subst e0; subst e1; subst e2; subst e3; subst e4
    rfl
theorem nas_of {cs : List Value} {x : DataW H × List MemPlace} (h : DataW.trod enc Tryz.prog w 0 (fun _ => true) true fuel 22 cs = some x) : ∃ a len cap tl, cs = [.slice a len cap] ∧ Nas w a len cap tl := by
  obtain ⟨a, len, cap, xs, hcs, hcame, hel⟩ := MR.came_of 5 Tryz.underlying22 (by kernel_rfl) (by omega) h
  have hz : ∀ i, ∃ t : Na, i < len → xs i = t.cells ∧ t.Ok w := by
    intro i
    by_cases h1 : i < len
    · obtain ⟨n, y, hy⟩ := hel i h1
      obtain ⟨t, h2⟩ := na_of hy
      exact ⟨t, fun _ => h2⟩
    · exact ⟨⟨0, 0, 0, ⟨#[]⟩, none, 0, 0, []⟩, fun h => absurd h h1⟩
  obtain ⟨Z, hZ⟩ := Classical.axiomOfChoice hz
  refine ⟨a, len, cap, (List.range len).map Z, hcs, by simp, hcame.le, hcame.max, hcame.nil, fun i t hi => ?_⟩
  have hil : i < len := by have := (List.getElem?_eq_some_iff.1 hi).1; simpa using this
  obtain ⟨ad, rfl, hb, hc⟩ := hcame.elems (by omega)
  simp [hil] at hi
  subst hi
  obtain ⟨_, h4⟩ := hc 0 (by omega)
  have h5 := h4 0 (.int .u8 (Z 0).k) (by rw [(hZ 0 (by omega)).1]; rfl)
  simp only [Nat.zero_mul, Nat.add_zero, MR.add_zero_] at h5
  obtain ⟨b, off, spot⟩ := ad
  obtain rfl : spot = none := MR.spot_none h5
  obtain ⟨_, h2⟩ := hc i hil
  refine ⟨b, off, rfl, hb, fun j u hu => ?_, (hZ i hil).2⟩
  have := h2 j u (by rw [(hZ i hil).1]; exact hu)
  rw [MR.mk_add] at this
  rw [Nat.add_assoc]; exact this
end
/-- The datum as few leaves it. -/
def Na.cut (t : Na) : Na := { t with l := min t.l 20, zs := t.zs.take 20 }
def flat (tl : List Na) : List Value := tl.flatMap Na.cells
theorem flat_len (tl : List Na) : (flat tl).length = tl.length * 5 := by
  induction tl with
  | nil => rfl
  | cons t tl ih => simp [flat, Na.cells] at ih ⊢; omega
/-- What few has gathered of the first k. -/
def gathered (tl : List Na) (k : Nat) : List Na := (tl.take (min k 60)).map Na.cut
def Gathered (w w' : World) (v : Value) (tl : List Na) (k : Nat) : Prop :=
  w'.ownsRow w.heap.size 53 5 v (gathered tl k).length (flat (gathered tl k)) ∧ MM.Far [] w w'
theorem gathered_next (tl : List Na) (k : Nat) (hk : k < tl.length) (h80 : k < 60) : gathered tl (k + 1) = gathered tl k ++ [(tl[k]).cut] := by
  unfold gathered
  rw [show min (k + 1) 60 = min k 60 + 1 from by omega, show min k 60 = k from by omega, List.take_succ_eq_append_getElem hk, List.map_append]
  rfl
theorem gathered_stay (tl : List Na) (k : Nat) (h80 : ¬ k < 60) : gathered tl (k + 1) = gathered tl k := by
  unfold gathered
  rw [show min (k + 1) 60 = min k 60 from by omega]
theorem gathered_le (tl : List Na) (k : Nat) : (gathered tl k).length ≤ 60 := by
  unfold gathered
  rw [List.length_map, List.length_take]; omega
theorem cells_one (t : Na) : ∀ u ∈ t.cells, u.oneCell' = true := by
  intro u hu
  simp only [Na.cells, List.mem_cons, List.not_mem_nil, or_false] at hu
  rcases hu with rfl | rfl | rfl | rfl | rfl <;> rfl
end RW6
end Go.Proofs.YtaghlpolljaedaaGreat
namespace Go.Proofs.YtaghlpolljaedaaGreat
open Go.RowKit
set_option linter.unusedVariables false
namespace RW6
open LX RX RM6
set_option maxHeartbeats 4000000 in
set_option maxRecDepth 20000 in
theorem dmay_any (ns : List Ni) (n : Nat) (hn : ns.length = n) (hn2 : n ≤ 100000) (hl : ∀ x ∈ ns, x.l.length ≤ 100000) (A : Option Addr) (c : Nat) (w : World) (hN : NiRow w [] A ns) :
    Calls Tryz.prog 19 #[.slice A n c] w fun e w' => e = .returned (.bool (may ns)) ∧ MM.Far [] w w' := by
  obtain ⟨R, hR⟩ : ∃ R, may ns = R := ⟨_, rfl⟩
  rw [hR]
  unfold may at hR
  have HR := Lib.hid hR
  have HN := Lib.hid hn
  have HL := Lib.hid hl
  have HNi := Lib.hid hN
  clear hR hn hl hN
  go_enter Tryz.func19, Tryz.ntmps19
  have hmk := run_make_row' (P := Tryz.prog) 70 4 (.bool false) 1 bools_slice bool_info rfl .i64 .i64 n (by omega) (by omega)
  rw [made_list] at hmk
  go_wp2
  clear hmk
  have HI0 : Hid (MayI w w.heap.size ns R 0 (w.alloc (.cells (List.replicate n (.bool false)).toArray 4))) := Lib.hid
    ⟨List.replicate n false, by rw [bools_rep]; exact MM.Row.new w 4 (List.replicate n (.bool false)), (MM.Far.refl [] w).alloc _, by rw [List.length_replicate, HN.out], by rw [List.drop_zero, ← HR.out, HN.out]⟩
  have HNb : Hid (NiRow (w.alloc (.cells (List.replicate n (.bool false)).toArray 4)) [w.heap.size] A ns) := Lib.hid (HNi.out.new ((MM.Far.refl [] w).alloc _) _ (Nat.le_refl _))
  obtain ⟨tb, htb⟩ : ∃ tb, w.heap.size = tb := ⟨_, rfl⟩
  rw [htb] at HI0 HNb
  rw [htb]
  have HTB := Lib.hid htb
  clear htb
  have HF0 : Hid (MM.Far [tb] (w.alloc (.cells (List.replicate n (.bool false)).toArray 4)) (w.alloc (.cells (List.replicate n (.bool false)).toArray 4))) := Lib.hid (MM.Far.refl _ _)
  go_loopw [4] (fun s4 wr => ∃ k : Nat, k ≤ n ∧ s4 = .int .i64 k ∧ Hid (MayI w tb ns R k wr) ∧ Hid (MM.Far [tb] (w.alloc (.cells (List.replicate n (.bool false)).toArray 4)) wr)) (fun s4 _ => n - (intOf s4).toNat)
  case atStart => exact ⟨0, by omega, rfl, HI0, HF0⟩
  case round =>
    obtain ⟨k, hk, rfl, hI, hF⟩ := hrel
    obtain ⟨tk, hB, hFw, hlen, hG⟩ := hI.out
    clear hI HI0 HF0
    by_cases hlt : k < n
    · have hk2 : k < ns.length := by rw [HN.out]; exact hlt
      obtain ⟨b, o, LA, lc, rfl, hbS, hb, c0, c1, c2, c3, c4, hL⟩ := (HNb.out.far hF.out) k hk2
      rw [List.drop_eq_getElem_cons hk2] at hG
      have hml := HL.out _ (List.getElem_mem hk2)
      generalize ns[k] = x at *
      obtain ⟨kd, at_, nn, s, l⟩ := x
      simp only at c0 c1 c2 c3 c4 hL hml
      unfold mayG at hG
      simp only at hG
      obtain ⟨m, hm⟩ : ∃ m, l.length = m := ⟨_, rfl⟩
      rw [hm] at c4 hml hG
      have HM := Lib.hid hm
      obtain ⟨ok, hok⟩ : ∃ ok, okF kd at_ nn s m = ok := ⟨_, rfl⟩
      rw [hok] at hG
      have HC := Lib.hid (right_any kd at_ nn s LA m lc hml)
      rw [hok] at HC
      have HB := Lib.hid hB
      have HFw := Lib.hid hFw
      have HFt := Lib.hid hF.out
      have HIR := Lib.hid hL
      have HLEN := Lib.hid hlen
      have HG := Lib.hid hG
      have HBS := Lib.hid hbS
      have HBL := Lib.hid hb
      have HC4 := Lib.hid c4
      clear hk2 hG hok hB hFw hlen hL hF hm hbS hb
      cases ok with
      | false =>
        have HG2 : Hid (R = false) := Lib.hid (by have := HG.out; simpa using this.symm)
        clear HG
        go_wp2_with (first | (go_at_call 30; (with_reducible refine (HC.out _).mono ?_); rintro e w5 ⟨rfl, hF5⟩; have HFw5 := Lib.hid (HFw.out.trans hF5 (by simp)); clear hF5))
        go_ret
        exact ⟨by rw [HG2.out]; rfl, HFw5.out⟩
      | true =>
        obtain ⟨T, hT⟩ : ∃ T, takeL k l tk = T := ⟨_, rfl⟩
        have HT := Lib.hid hT
        have hG2 := HG.out
        rw [if_neg (by simp), hT] at hG2
        have HG2 := Lib.hid hG2
        clear HG hT hG2
        go_wp2_with (first | (go_at_call 30; (with_reducible refine (HC.out _).mono ?_); rintro e w5 ⟨rfl, hF5⟩; have HFw5 := Lib.hid (HFw.out.trans hF5 (by simp)); have HFt5 := Lib.hid (HFt.out.trans hF5 (by simp)); have HC5 := Lib.hid (far_cell hF5 HC4.out); have HIR5 := Lib.hid (HIR.out.far (hF5.mono (S' := [tb]) (by simp))); have HTI0 : Hid (TakeI w5 tb k l tk T 0 w5) := Lib.hid ⟨tk, HB.out.far hF5 (by simp), MM.Far.refl _ _, rfl, by rw [List.drop_zero]; exact HT.out⟩; clear hF5))
        go_loopw [6] (fun s6 wx => ∃ j : Nat, j ≤ m ∧ s6 = .int .i64 j ∧ Hid (TakeI w5 tb k l tk T j wx)) (fun s6 _ => m - (intOf s6).toNat)
        case atStart => exact ⟨0, by omega, rfl, HTI0⟩
        case round =>
          obtain ⟨j, hj, rfl, hTI⟩ := hrel
          obtain ⟨tj, hBj, hFj, hlj, hRj⟩ := hTI.out
          clear hTI HTI0
          have c5 := far_cell_at hFj HBS.out HC5.out
          have HFwx := Lib.hid (far_dtS HFw5.out hFj (.inr rfl) (fun h => by have := HTB.out; omega))
          have HFtx := Lib.hid (far_dtS HFt5.out hFj (.inr rfl) (fun _ => by simp))
          by_cases hlt2 : j < m
          · have hj2 : j < l.length := by rw [HM.out]; exact hlt2
            obtain ⟨b2, o2, hLA, hbS2, hb2, hc⟩ := (HIR5.out.far hFj) j hj2
            subst hLA
            rw [List.drop_eq_getElem_cons hj2] at hRj
            generalize l[j] = p at *
            unfold takeL at hRj
            have HFj := Lib.hid hFj
            have HBj := Lib.hid hBj
            have HLj := Lib.hid hlj
            clear hFj hBj hlj hj2 hbS2 hb2
            by_cases h1 : p < 0
            · rw [if_pos (.inl h1)] at hRj
              subst hRj
              have HG3 : Hid (R = false) := Lib.hid (show false = R from HG2.out).symm
              have d1 : decide (p < 0) = true := by rw [decide_eq_true_iff]; exact h1
              clear HG2
              go_wp2
              go_ret
              exact ⟨by rw [HG3.out]; rfl, HFwx.out⟩
            · by_cases h2 : (k : Int) ≤ p
              · rw [if_pos (.inr h2)] at hRj
                subst hRj
                have HG3 : Hid (R = false) := Lib.hid (show false = R from HG2.out).symm
                have d1 : decide (p < 0) = false := by rw [decide_eq_false_iff_not]; exact h1
                have d2 : decide ((k : Int) ≤ p) = true := by rw [decide_eq_true_iff]; exact h2
                clear HG2
                go_wp2
                go_ret
                exact ⟨by rw [HG3.out]; rfl, HFwx.out⟩
              · rw [if_neg (by omega)] at hRj
                obtain ⟨q, rfl⟩ : ∃ q : Nat, p = (q : Int) := ⟨p.toNat, by omega⟩
                have hq : q < tj.length := by rw [HLj.out, HLEN.out, HN.out]; omega
                have hqi : q < k := by omega
                rw [Int.toNat_natCast] at hRj
                have hgd : tj.getD q false = tj[q] := by rw [List.getD_eq_getElem?_getD, List.getElem?_eq_getElem hq]; rfl
                rw [hgd] at hRj
                have hcell := HBj.out.at (bools_at hq)
                have hfz := HBj.out.frozen q
                have g1 : (q : Int) < (k : Int) := by omega
                have g2 : (q : Int) < (n : Int) := by omega
                obtain ⟨bt, hbt⟩ : ∃ bt, tj[q] = bt := ⟨_, rfl⟩
                rw [hbt] at hRj hcell
                clear hgd hbt h1 h2
                cases bt with
                | true =>
                  rw [if_pos rfl] at hRj
                  subst hRj
                  have HG3 : Hid (R = false) := Lib.hid (show false = R from HG2.out).symm
                  clear HG2
                  go_wp2
                  go_ret
                  exact ⟨by rw [HG3.out]; rfl, HFwx.out⟩
                | false =>
                  rw [if_neg (by simp)] at hRj
                  have HRj := Lib.hid hRj
                  rename_i wx
                  clear hRj
                  go_wp2
                  go_roundw
                  case rel => exact ⟨j + 1, by omega, by go_num, Lib.hid ⟨tj.set q true, by rw [← bools_set]; exact HBj.out.put q _, HFj.out.trans (one_far _ tb q _) (by simp), by rw [List.length_set]; exact HLj.out, HRj.out⟩⟩
                  case measure => simp [intOf]; omega
          · obtain rfl : j = m := by omega
            rw [List.drop_of_length_le (by rw [HM.out]; exact Nat.le_refl _)] at hRj
            replace hRj : some tj = T := hRj
            subst hRj
            have HG3 : Hid (mayG (ns.drop (k + 1)) (k + 1) tj = R) := Lib.hid HG2.out
            have HBj := Lib.hid hBj
            have HLj := Lib.hid hlj
            clear HG2 hFj hBj hlj
            go_wp2
            go_roundw
            case rel => exact ⟨k + 1, by omega, by go_num, Lib.hid ⟨tj, HBj.out, HFwx.out, by rw [HLj.out]; exact HLEN.out, HG3.out⟩, HFtx⟩
            case measure => simp [intOf]; omega
    · obtain rfl : k = n := by omega
      rw [List.drop_of_length_le (by rw [HN.out]; exact Nat.le_refl _)] at hG
      have HG2 : Hid (true = R) := Lib.hid hG
      have HFw := Lib.hid hFw
      clear hG hB hFw hlen hF
      go_wp2
      go_ret
      exact ⟨by rw [← HG2.out]; rfl, HFw.out⟩
end RW6
end Go.Proofs.YtaghlpolljaedaaGreat
namespace Go.Proofs.YtaghlpolljaedaaGreat
open Go.RowKit
set_option linter.unusedVariables false
namespace RW6
open LX RX RM6
def Na.ni (t : Na) : Ni := ⟨t.k, t.at_, t.n, t.s, t.zs⟩
theorem flat_at : ∀ (tl : List Na) (k : Nat) (h : k < tl.length) (j : Nat) (_ : j < 5), (flat tl)[k * 5 + j]? = (tl[k]).cells[j]? := by
  intro tl
  induction tl with
  | nil => intro k h; simp at h
  | cons x tl ih =>
    intro k h j hj
    have e : flat (x :: tl) = x.cells ++ flat tl := by simp [flat]
    have hl : x.cells.length = 5 := rfl
    rw [e]
    cases k with
    | zero => rw [Nat.zero_mul, Nat.zero_add, List.getElem?_append_left (by omega)]; rfl
    | succ k =>
      rw [List.getElem?_append_right (by omega)]
      have := ih k (by simpa using h) j hj
      rw [show (k + 1) * 5 + j - x.cells.length = k * 5 + j from by omega, this]
      rfl
theorem Nas.far {w w' : World} {a : Option Addr} {len cap : Nat} {tl : List Na} (h : Nas w a len cap tl) (f : MM.Far [] w w') : Nas w' a len cap tl :=
  ⟨h.len_, h.le, h.max, h.nil, fun i t ht => by
    obtain ⟨b, off, e, hb, hc, ho⟩ := h.elems i t ht
    exact ⟨b, off, e, Nat.lt_of_lt_of_le hb f.size, fun j u hu => (f.cell (p := ⟨b, off + i * 5 + j, none⟩) hb (by simp)).trans (hc j u hu), ho.hk, ho.hn, ho.hi, ho.hs, ho.hz.len_, ho.hz.le, ho.hz.max, ho.hz.nil, ho.hz.src.far f (by simp), ho.hz.wf⟩⟩
theorem irow_take {w : World} {A : Option Addr} {zs : List Int} (h : MM.Src w [] A (zs.map (.int .i64))) (m : Nat) : IRow w [] A (zs.take m) := by
  intro k hk
  have hk2 : k < zs.length := by rw [List.length_take] at hk; omega
  obtain ⟨ad, rfl, hS, hb, hc⟩ := h (by rw [List.length_map]; omega)
  have h0 := hc 0 (.int .i64 (zs[0]'(by omega))) (by rw [List.getElem?_map, List.getElem?_eq_getElem (by omega)]; rfl)
  rw [MR.add_zero_] at h0
  obtain ⟨b, off, spot⟩ := ad
  obtain rfl : spot = none := MR.spot_none h0
  have h1 := hc k (.int .i64 zs[k]) (by rw [List.getElem?_map, List.getElem?_eq_getElem hk2]; rfl)
  rw [MR.mk_add] at h1
  exact ⟨b, off, rfl, by simp, hb, by rw [List.getElem_take]; exact h1⟩
end RW6
end Go.Proofs.YtaghlpolljaedaaGreat
