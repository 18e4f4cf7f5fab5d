/-
  Contract of the printer's isQuote. Conditions: the row of data is as the list says; the places of a list are the row's.
-/
import Derived.Test.YtbglcdjimipeeaaGreatDoorShowMem
import Derived.Test.YtbglcdjimipeeaaGreatDoorShowPlain
namespace Go.Proofs.YtbglcdjimipeeaaGreatDoor
open Go.RowKit
namespace SW
open LX RX RW6 SX
open RC6 (own_off one_far form_ far_app far_app0)
theorem str_bts (s : ByteArray) : str (bts s) = s := by unfold bts str; simp
theorem ndAt_lt {ns : List Nd} {i : Nat} (h : i < ns.length) : ndAt ns i = ns[i] := by
  unfold ndAt
  rw [List.getD_eq_getElem?_getD, List.getElem?_eq_getElem h]; rfl
/-- A datum of the row, its cells. -/
theorem nd_at {w : World} {DA : Option Addr} {ns : List Nd} (h : NdRow w DA ns) (i : Nat) (hi : i < ns.length) : ∃ b o LA c, DA = some ⟨b, o, none⟩ ∧ b < w.heap.size ∧ w.cell? ⟨b, o + i * 5, none⟩ = some (.int .u8 (ndAt ns i).kind) ∧ w.cell? ⟨b, o + i * 5 + 1, none⟩ = some (.int .i64 (ndAt ns i).at_) ∧
    w.cell? ⟨b, o + i * 5 + 2, none⟩ = some (.int .i64 (ndAt ns i).n) ∧ w.cell? ⟨b, o + i * 5 + 3, none⟩ = some (.string (ndAt ns i).s) ∧ w.cell? ⟨b, o + i * 5 + 4, none⟩ = some (.slice LA (ndAt ns i).l.length c) ∧ IntRow w LA (ndAt ns i).l := by
  rw [ndAt_lt hi]
  exact h i hi
set_option maxHeartbeats 2000000 in
set_option maxRecDepth 20000 in
theorem isq_any {w : World} {q : Nat} {DA : Option Addr} {n c : Nat} (ns : List Nd) (hn : ns.length = n) (hq0 : w.cell? ⟨q, 0, none⟩ = some (.slice DA n c)) (hN : NdRow w DA ns) (x : Nd) (LA : Option Addr) (lc : Nat) (hl : IntRow w LA x.l) (hlt : ∀ p ∈ x.l, p < n) :
    Calls Tryz.prog 51 #[.pointer (some ⟨q, 0, none⟩), .agg #[.int .u8 x.kind, .int .i64 x.at_, .int .i64 x.n, .string x.s, .slice LA x.l.length lc]] w fun e w' => e = .returned (.bool (quo ns x)) ∧ MM.Far [] w w' := by
  obtain ⟨kd, at_, nn, s, l⟩ := x
  simp only at hl hlt ⊢
  have hq := World.block_lt_of_cell? w _ hq0
  by_cases h2 : l.length = 2
  · obtain ⟨a, b, rfl⟩ : ∃ a b, l = [a, b] := by
      match l, h2 with
      | [a, b], _ => exact ⟨a, b, rfl⟩
    have ha := hlt a (by simp)
    obtain ⟨b1, o1, rfl, hb1, ca⟩ := hl 0 (by simp)
    obtain ⟨b2, o2, LA2, c2, rfl, hb2, d0, d1, d2, d3, d4, -⟩ := nd_at hN a (by omega)
    have HQ : Hid (quo ns ⟨kd, at_, nn, s, [a, b]⟩ = (decide ((ndAt ns a).kind = 3) && decide ((ndAt ns a).s = quoteB))) := Lib.hid (by unfold quo; rfl)
    generalize ndAt ns a = y at d0 d1 d2 d3 d4 HQ
    obtain ⟨yk, ya, yn, ys, yl⟩ := y
    simp only at d0 d1 d2 d3 d4 HQ
    simp only [List.getElem_cons_zero] at ca
    obtain ⟨m, hm⟩ : ∃ m, yl.length = m := ⟨_, rfl⟩
    rw [hm] at d4
    have F := (MM.Far.refl [] w).alloc (.cells #[.int .u8 kd, .int .i64 at_, .int .i64 nn, .string s, .slice (some ⟨b1, o1, none⟩) 2 lc] 57)
    have HF := Lib.hid F
    have k0 := (F.cell (p := ⟨q, 0, none⟩) hq (by simp)).trans hq0
    have ca' := (F.cell (p := ⟨b1, o1, none⟩) hb1 (by simp)).trans ca
    have e0 := (F.cell (p := ⟨b2, o2 + a * 5, none⟩) hb2 (by simp)).trans d0
    have e1 := (F.cell (p := ⟨b2, o2 + a * 5 + 1, none⟩) hb2 (by simp)).trans d1
    have e2 := (F.cell (p := ⟨b2, o2 + a * 5 + 2, none⟩) hb2 (by simp)).trans d2
    have e3 := (F.cell (p := ⟨b2, o2 + a * 5 + 3, none⟩) hb2 (by simp)).trans d3
    have e4 := (F.cell (p := ⟨b2, o2 + a * 5 + 4, none⟩) hb2 (by simp)).trans d4
    clear hm d0 d1 d2 d3 d4 ca hlt hl hN F h2 hn hq0
    obtain ⟨sb, hsb⟩ : ∃ sb, decide (ys = quoteB) = sb := ⟨_, rfl⟩
    have hks : (ys.toList == [113, 117, 111, 116, 101]) = sb := by
      rw [← hsb, Lib.toList_data]
      by_cases e : ys = quoteB
      · subst e; rfl
      · rw [decide_eq_false e, beq_eq_false_iff_ne]
        intro h
        apply e
        rw [← str_bts ys]; unfold bts; rw [h]; rfl
    rw [hsb] at HQ
    clear hsb
    obtain ⟨kb, hkb⟩ : ∃ kb, (yk == 3) = kb := ⟨_, rfl⟩
    have hkd : decide (yk = 3) = kb := by rw [← hkb]; rfl
    rw [hkd] at HQ
    clear hkd
    go_enter Tryz.func51, Tryz.ntmps51
    go_wp2
    cases kb
    all_goals
      go_region
      all_goals
        go_wp2
        go_ret
        rw [HQ.out]
        exact ⟨rfl, (HF.out.alloc _).drew⟩
  · have g1 : ((l.length : Int) == 2) = false := by rw [beq_eq_false_iff_ne]; omega
    have g2 : ((l.length : Int) != 2) = true := by simp [bne, g1]
    have g3 : ¬ ((l.length : Int) = 2) := by omega
    have HQ : Hid (quo ns ⟨kd, at_, nn, s, l⟩ = false) := Lib.hid (by unfold quo; simp [h2])
    have HF := Lib.hid ((MM.Far.refl [] w).alloc (.cells #[.int .u8 kd, .int .i64 at_, .int .i64 nn, .string s, .slice LA l.length lc] 57))
    clear h2 hl hlt hN
    go_enter Tryz.func51, Tryz.ntmps51
    go_wp2
    go_ret
    rw [HQ.out]
    exact ⟨rfl, HF.out⟩
end SW
end Go.Proofs.YtbglcdjimipeeaaGreatDoor
