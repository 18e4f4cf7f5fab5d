/-
  Contracts of the document's own parts of layer 6: Ints, Same, over two rows of the same. Conditions: sizes.
-/
import Derived.Test.YtbglcdjimipeeaaDoorReadPlain
import Derived.Test.YtbglcdjimipeeaaDoorLexRef1
import Derived.Test.YtbglcdjimipeeaaDoorRead
import Derived.Deep.QuietTactic
import Derived.BigQuiet
namespace Go.Proofs.YtbglcdjimipeeaaDoor
open Go.RowKit
namespace RW6
open LX RX
/-- A row of places, wherever it lies. -/
def IntRow (w : World) (A : Option Addr) (l : List Nat) : Prop :=
  ∀ (k : Nat) (h : k < l.length), ∃ b o, A = some ⟨b, o, none⟩ ∧ b < w.heap.size ∧ w.cell? ⟨b, o + k, none⟩ = some (.int .i64 ((l[k] : Nat) : Int))
theorem IntRow.far {w w' : World} {A : Option Addr} {l : List Nat} (h : IntRow w A l) (f : MM.Far [] w w') : IntRow w' A l := by
  intro k hk
  obtain ⟨b, o, e, hb, c⟩ := h k hk
  exact ⟨b, o, e, Nat.lt_of_lt_of_le hb f.size, (f.cell (p := ⟨b, o + k, none⟩) hb (by simp)).trans c⟩
def ints (l : List Nat) : List Value := l.map (fun n => .int .i64 ((n : Nat) : Int))
theorem IntRow.of_src {w : World} {S : List Nat} {A : Option Addr} {l : List Nat} (h : MM.Src w S A (ints l)) : IntRow w A l := by
  intro k hk
  obtain ⟨ad, e, _, hl, hc⟩ := h (by unfold ints; rw [List.length_map]; omega)
  have hu (j : Nat) (hj : j < l.length) : (ints l)[j]? = some (.int .i64 ((l[j] : Nat) : Int)) := by unfold ints; rw [List.getElem?_map, List.getElem?_eq_getElem hj]; rfl
  obtain ⟨b, o, spot⟩ := ad
  have h0 := hc 0 _ (hu 0 (by omega))
  rw [MR.add_zero_] at h0
  obtain rfl : spot = none := MR.spot_none h0
  have h1 := hc k _ (hu k hk)
  rw [MR.mk_add] at h1
  exact ⟨b, o, e, hl, h1⟩
set_option maxHeartbeats 1000000 in
theorem ints_yes (l : List Nat) (n : Nat) (hn : l.length = n) (hm : n ≤ 100000) (A1 A2 : Option Addr) (c1 c2 : Nat) (w : World) (h1 : IntRow w A1 l) (h2 : IntRow w A2 l) :
    Calls Tryd.prog 6 #[.slice A1 n c1, .slice A2 n c2] w fun e w' => e = .returned (.bool true) ∧ ∃ d, w' = w.drewN d := by
  have H1 := Lib.hid h1
  have H2 := Lib.hid h2
  have HN := Lib.hid hn
  have HD0 : Hid (∃ d, w = w.drewN d) := Lib.hid ⟨0, rfl⟩
  clear h1 h2 hn
  go_enter Tryd.func6, Tryd.ntmps6
  go_wp2
  go_loopw [5] (fun i wr => ∃ k : Nat, k ≤ n ∧ i = .int .i64 (k : Int) ∧ Hid (∃ d, wr = w.drewN d)) (fun i _ => n - (intOf i).toNat)
  case atStart => exact ⟨0, by omega, rfl, HD0⟩
  case round =>
    obtain ⟨k, hk, rfl, hD⟩ := hrel
    obtain ⟨d, hd⟩ := hD.out
    have hF : MM.Far [] w wr := hd ▸ (MM.Far.refl [] w).drewN d
    have HE := Lib.hid hd
    clear hd
    by_cases hlt : k < n
    · have hk2 : k < l.length := by rw [HN.out]; exact hlt
      obtain ⟨b1, o1, rfl, hb1, a0⟩ := (H1.out.far hF) k hk2
      obtain ⟨b2, o2, rfl, hb2, d0⟩ := (H2.out.far hF) k hk2
      generalize l[k] = t at *
      clear hk2 hD hF
      go_wp2
      go_quiet (fail)
      go_wp2
      go_roundw
      case rel => exact ⟨k + 1, by omega, by go_num, Lib.hid ⟨d + nq, by rw [HE.out, World.drewN_drewN]⟩⟩
      case measure => simp [intOf]; omega
    · obtain rfl : k = n := by omega
      clear hD hF
      go_wp2
      go_ret
      exact ⟨rfl, d, HE.out⟩
/-- A row of data, wherever it lies; each with its list. -/
def NdRow (w : World) (A : Option Addr) (ns : List Nd) : Prop :=
  ∀ (k : Nat) (h : k < ns.length), ∃ b o LA c, A = some ⟨b, o, none⟩ ∧ b < w.heap.size ∧ w.cell? ⟨b, o + k * 5, none⟩ = some (.int .u8 ns[k].kind) ∧ w.cell? ⟨b, o + k * 5 + 1, none⟩ = some (.int .i64 ns[k].at_) ∧
    w.cell? ⟨b, o + k * 5 + 2, none⟩ = some (.int .i64 ns[k].n) ∧ w.cell? ⟨b, o + k * 5 + 3, none⟩ = some (.string ns[k].s) ∧ w.cell? ⟨b, o + k * 5 + 4, none⟩ = some (.slice LA ns[k].l.length c) ∧ IntRow w LA ns[k].l
theorem NdRow.far {w w' : World} {A : Option Addr} {ns : List Nd} (h : NdRow w A ns) (f : MM.Far [] w w') : NdRow w' A ns := by
  intro k hk
  obtain ⟨b, o, LA, c, e, hb, c0, c1, c2, c3, c4, hI⟩ := h k hk
  have g (x : Nat) : w'.cell? ⟨b, x, none⟩ = w.cell? ⟨b, x, none⟩ := f.cell (p := ⟨b, x, none⟩) hb (by simp)
  exact ⟨b, o, LA, c, e, Nat.lt_of_lt_of_le hb f.size, (g _).trans c0, (g _).trans c1, (g _).trans c2, (g _).trans c3, (g _).trans c4, hI.far f⟩
set_option maxHeartbeats 4000000 in
theorem nsame_yes (ns : List Nd) (n : Nat) (hn : ns.length = n) (hm : n ≤ 100000) (hl : ∀ x ∈ ns, x.l.length ≤ 100000) (A1 A2 : Option Addr) (c1 c2 : Nat) (w : World) (h1 : NdRow w A1 ns) (h2 : NdRow w A2 ns) :
    Calls Tryd.prog 7 #[.slice A1 n c1, .slice A2 n c2] w fun e w' => e = .returned (.bool true) ∧ ∃ d, w' = w.drewN d := by
  have H1 := Lib.hid h1
  have H2 := Lib.hid h2
  have HN := Lib.hid hn
  have HLN := Lib.hid hl
  have HD0 : Hid (∃ d, w = w.drewN d) := Lib.hid ⟨0, rfl⟩
  clear h1 h2 hn hl
  go_enter Tryd.func7, Tryd.ntmps7
  go_wp2
  go_loopw [5] (fun i wr => ∃ k : Nat, k ≤ n ∧ i = .int .i64 (k : Int) ∧ Hid (∃ d, wr = w.drewN d)) (fun i _ => n - (intOf i).toNat)
  case atStart => exact ⟨0, by omega, rfl, HD0⟩
  case round =>
    obtain ⟨k, hk, rfl, hD⟩ := hrel
    obtain ⟨d, hd⟩ := hD.out
    have hF : MM.Far [] w wr := hd ▸ (MM.Far.refl [] w).drewN d
    have HE := Lib.hid hd
    clear hd
    by_cases hlt : k < n
    · have hk2 : k < ns.length := by rw [HN.out]; exact hlt
      obtain ⟨b1, o1, L1, e1, rfl, hb1, a0, a1, a2, a3, a4, i1⟩ := (H1.out.far hF) k hk2
      obtain ⟨b2, o2, L2, e2, rfl, hb2, d0, d1, d2, d3, d4, i2⟩ := (H2.out.far hF) k hk2
      have hll := HLN.out _ (List.getElem_mem hk2)
      generalize ns[k] = t at *
      obtain ⟨kd, at_, nn, ss, l⟩ := t
      simp only at a0 a1 a2 a3 a4 i1 d0 d1 d2 d3 d4 i2 hll
      obtain ⟨m, hm2⟩ : ∃ m, l.length = m := ⟨_, rfl⟩
      rw [hm2] at a4 d4 hll
      have HI := Lib.hid (fun x => ints_yes l m hm2 hll L1 L2 e1 e2 (wr.drewN x) (i1.far ((MM.Far.refl [] _).drewN x)) (i2.far ((MM.Far.refl [] _).drewN x)))
      clear hk2 hD hF i1 i2 hm2
      go_wp2
      go_quiet ((go_at_call 6; exact Calls.quiet_of (HI.out _)))
      go_wp2
      go_roundw
      case rel => exact ⟨k + 1, by omega, by go_num, Lib.hid ⟨d + nq, by rw [HE.out, World.drewN_drewN]⟩⟩
      case measure => simp [intOf]; omega
    · obtain rfl : k = n := by omega
      clear hD hF
      go_wp2
      go_ret
      exact ⟨rfl, d, HE.out⟩
end RW6
end Go.Proofs.YtbglcdjimipeeaaDoor
