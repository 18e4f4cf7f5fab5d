/-
  Contracts of the code's reader: innermost, pop. No condition.
-/
import Derived.Test.YtbglcdjimipeeaaDoorReadCMem
import Derived.Deep.RegionLaw
import Derived.Deep.RegionHeld3
import Derived.BigQuiet
import Derived.Deep.QuietTactic
namespace Go.Proofs.YtbglcdjimipeeaaDoor
open Go.RowKit
namespace RC6
open LX RX RW6
open RM6 (Kin ndC kinsN kinsP ints_snoc ints_len ndC_snoc own_off one_far)
theorem opens_slice : Tryd.prog.underlying 39 = some (.slice 56) := by kernel_rfl
theorem open_info : (Tryd.prog.info? 56).map (fun i => (i.zero, i.size, i.bytes)) = some (some (.agg #[.int .u8 0, .int .i64 0, .int .i64 0, .string ⟨#[]⟩, .slice none 0 0, .bool false]), 6, 72) := by kernel_rfl
section
variable {w0 w : World} {q : Nat} {rv tv ov : Value} {rs : List (Nd × Value)} {tops : List Nat} {os : List (Pt × Value)} {ex : List (Value × List Nat)}
theorem own_front {base : Nat} {e : TypeId} {size g n c : Nat} {xs : List Value} (h : w.ownsRow base e size (.slice (some ⟨g, 0, none⟩) n c) n xs) (m : Nat) (hm : m ≤ n) : w.ownsRow base e size (.slice (some ⟨g, 0, none⟩) m c) m (xs.take (m * size)) := by
  obtain ⟨hl, h2⟩ := h
  rcases h2 with ⟨hz, _⟩ | ⟨g', cap, cur, hz, hb, hg, hn, hmx, hs, ht⟩
  · cases hz
  · injection hz with h1 h2 h3
    injection h1 with h1
    injection h1 with h1
    subst h1; subst h3
    have hle : m * size ≤ n * size := Nat.mul_le_mul_right _ hm
    refine ⟨by rw [List.length_take, hl]; omega, .inr ⟨g, c, cur, rfl, hb, hg, by omega, hmx, hs, ?_⟩⟩
    rw [← ht, List.take_take, Nat.min_eq_left hle]
theorem open_at {p : Pt} {hp : Value} {os1 : List (Pt × Value)} (h : Rdr w0 w q rv tv ov rs tops ((p, hp) :: os1) ex) : ∃ og oc, ov = .slice (some ⟨og, 0, none⟩) (os1.length + 1) oc ∧ os1.length + 1 ≤ oc ∧ oc ≤ maxLen ∧
    w.cell? ⟨og, os1.length * 6, none⟩ = some (.int .u8 4) ∧ w.cell? ⟨og, os1.length * 6 + 1, none⟩ = some (.int .i64 p.at_) ∧ w.cell? ⟨og, os1.length * 6 + 2, none⟩ = some (.int .i64 0) ∧ w.cell? ⟨og, os1.length * 6 + 3, none⟩ = some (.string emp) ∧
    w.cell? ⟨og, os1.length * 6 + 4, none⟩ = some hp ∧ w.cell? ⟨og, os1.length * 6 + 5, none⟩ = some (.bool p.q) ∧ (∀ i, w.frozen? ⟨og, i, none⟩ = false) ∧ og < w.heap.size ∧ w0.heap.size ≤ og := by
  have ho := h.op
  obtain ⟨A, c, e, _, hc1, hc2, _, hh⟩ := MO.form ho
  have hlt := fun b (hb : ov.ownBlock = some b) => MM.own_lt ho b hb
  rcases hh with ⟨_, hz, _⟩ | ⟨og, rfl, _, _⟩
  · simp at hz
  subst e
  have hcells := fun j u (hu : (ptC ((p, hp) :: os1).reverse)[j]? = some u) => @World.ownsRow.cells w _ _ _ _ _ _ ho og rfl j u hu
  have hadd : ∀ j, (⟨og, 0, none⟩ : Addr).add j = ⟨og, j, none⟩ := by intro j; unfold Addr.add; split <;> simp_all
  have hget : ∀ j u, ([.int .u8 4, .int .i64 p.at_, .int .i64 0, .string emp, hp, .bool p.q] : List Value)[j]? = some u → (ptC ((p, hp) :: os1).reverse)[os1.length * 6 + j]? = some u := by
    intro j u hu
    rw [List.reverse_cons, ptC_snoc, List.getElem?_append_right (by rw [ptC_len, List.length_reverse]; omega), ptC_len, List.length_reverse, show os1.length * 6 + j - os1.length * 6 = j by omega]
    exact hu
  have at_ := fun j u hu => (hadd (os1.length * 6 + j)) ▸ hcells _ u (hget j u hu)
  refine ⟨og, c, rfl, hc1, hc2, at_ 0 _ rfl, at_ 1 _ rfl, at_ 2 _ rfl, at_ 3 _ rfl, at_ 4 _ rfl, at_ 5 _ rfl, ?_, (hlt og rfl).1, (hlt og rfl).2⟩
  intro i
  rcases ho.2 with ⟨hz, _⟩ | ⟨g, cap, cur, hz, _, hg, _⟩
  · cases hz
  · injection hz with hz
    injection hz with hz
    injection hz with hz
    subst hz
    simp [World.frozen?, hg]
theorem op_front {p : Pt} {hp : Value} {os1 : List (Pt × Value)} {og oc : Nat} (h : Rdr w0 w q rv tv (.slice (some ⟨og, 0, none⟩) (os1.length + 1) oc) rs tops ((p, hp) :: os1) ex) : w.ownsRow w0.heap.size 56 6 (.slice (some ⟨og, 0, none⟩) os1.length oc) os1.length (ptC os1.reverse) := by
  have := own_front (n := os1.length + 1) h.op os1.length (by omega)
  rw [List.reverse_cons, ptC_snoc, List.take_append_of_le_length (by rw [ptC_len, List.length_reverse]; omega), List.take_of_length_le (by rw [ptC_len, List.length_reverse]; omega)] at this
  exact this
set_option maxHeartbeats 1000000 in
theorem inner_any {n oc og : Nat} (w : World) (hq : w.cell? ⟨q, 2, none⟩ = some (.slice (some ⟨og, 0, none⟩) (n + 1) oc)) (hn : n ≤ 20000) :
    Calls Tryd.prog 16 #[.pointer (some ⟨q, 0, none⟩)] w fun e w' => e = .returned (.pointer (some ⟨og, n * 6, none⟩)) ∧ ∃ d, w' = w.drewN d := by
  have h1 : (n : Int) < (n : Int) + 1 := by omega
  go_enter Tryd.func16, Tryd.ntmps16
  go_wp2
  go_quiet (fail)
  go_wp2
  go_ret
  exact ⟨by simp, _, rfl⟩
theorem Rdr.pop2 {w1 : World} {ov' : Value} {p : Pt} {hp : Value} {os1 : List (Pt × Value)} (h : Rdr w0 w q rv tv ov rs tops ((p, hp) :: os1) ex) (hr : w.ownsRow w0.heap.size 56 6 ov' os1.length (ptC os1.reverse)) (f : MM.Far [q] w w1)
    (hH : MM.Row w1 q 41 [rv, tv, ov']) : Rdr w0 w1 q rv tv ov' rs tops os1 ((hp, p.l) :: ex) := by
  have offq {e : TypeId} {size n : Nat} {v : Value} {xs : List Value} (ho : w.ownsRow w0.heap.size e size v n xs) (ht : e ≠ 41) : ∀ b, v.ownBlock = some b → b ∉ [q] := by
    intro b hb hm
    have : b = q := by simpa using hm
    subst this
    exact MM.own_row_ne ho h.head ht hb
  refine ⟨h.far.trans f (fun b hb hl => ?_), h.qb, hH, MM.own_far h.row f (offq h.row (by decide)), MM.own_far hr f (offq hr (by decide)), ?_⟩
  · have e : b = q := by simpa using hb
    have := h.qb
    omega
  · refine (h.kin.far f (fun k hk => offq (h.kin.each k hk) (by decide))).perm (List.Perm.cons _ (List.Perm.append_left _ ?_))
    show ((hp, p.l) :: (kinsP os1 ++ ex)).Perm (kinsP os1 ++ (hp, p.l) :: ex)
    exact List.perm_middle.symm
set_option maxHeartbeats 1000000 in
theorem pop_any {p : Pt} {hp : Value} {os1 : List (Pt × Value)} (h : Rdr w0 w q rv tv ov rs tops ((p, hp) :: os1) ex) (hn : os1.length ≤ 20000) :
    Calls Tryd.prog 20 #[.pointer (some ⟨q, 0, none⟩)] w fun e w' => e = .returned (.agg #[.int .u8 4, .int .i64 p.at_, .int .i64 0, .string emp, hp]) ∧ MM.Far [q] w w' ∧ ∃ ov', Rdr w0 w' q rv tv ov' rs tops os1 ((hp, p.l) :: ex) := by
  obtain ⟨og, oc, rfl, hc1, hc2, c0, c1, c2, c3, c4, c5, hfz, hog, hog0⟩ := open_at h
  obtain ⟨hA, hc, rfl⟩ : ∃ A c, hp = .slice A p.l.length c := by
    obtain ⟨A, c, e, _⟩ := MO.form (h.kin.each (hp, p.l) (by simp [kinsP]))
    exact ⟨A, c, e⟩
  have hq := h.head.lt
  have k2 := h.head.at (i := 2) rfl
  have kf := h.head.frozen 2
  have HR := Lib.hid h
  have hoc : ¬ oc = 0 := by omega
  have hcI : (os1.length : Int) ≤ (oc : Int) := by omega
  have hcI2 : (0 : Int) ≤ (os1.length : Int) := by omega
  unfold maxLen at hc2
  clear h
  go_enter Tryd.func20, Tryd.ntmps20
  go_wp2_with (go_at_call 16; refine (inner_any _ ((HR.out.to ((MM.Far.refl [] w).alloc _)).head.at (i := 2) rfl) hn).mono ?_; rintro e w1 ⟨rfl, d, rfl⟩)
  go_region
  all_goals
    go_wp2
    have hne : q ≠ w.heap.size := by omega
    have hH := ((((((((((HR.out.head.alloc (.cells #[.int .u8 0, .int .i64 0, .int .i64 0, .string ⟨#[]⟩, .slice none 0 0] 33)).drewN d).put 2 (.slice (some ⟨og, 0, none⟩) os1.length oc)).other (p := ⟨w.heap.size, 0, none⟩) hne (.int .u8 4)).other (p := ⟨w.heap.size, 1, none⟩) hne (.int .i64 p.at_)).other (p := ⟨w.heap.size, 2, none⟩) hne (.int .i64 0)).other (p := ⟨w.heap.size, 3, none⟩) hne (.string emp)).other (p := ⟨w.heap.size, 4, none⟩) hne (.slice hA p.l.length hc)).alloc (.cells #[.int .u8 4, .int .i64 p.at_, .int .i64 0, .string emp, .slice hA p.l.length hc] 33))).drew
    have hF := (((((((((MM.Far.refl [q] w).alloc (.cells #[.int .u8 0, .int .i64 0, .int .i64 0, .string ⟨#[]⟩, .slice none 0 0] 33)).drewN d).setCell (p := ⟨q, 2, none⟩) (by simp) (.slice (some ⟨og, 0, none⟩) os1.length oc)).setCell (p := ⟨w.heap.size, 0, none⟩) (fun h => absurd h (Nat.lt_irrefl _)) (.int .u8 4)).setCell (p := ⟨w.heap.size, 1, none⟩) (fun h => absurd h (Nat.lt_irrefl _)) (.int .i64 p.at_)).setCell (p := ⟨w.heap.size, 2, none⟩) (fun h => absurd h (Nat.lt_irrefl _)) (.int .i64 0)).setCell (p := ⟨w.heap.size, 3, none⟩) (fun h => absurd h (Nat.lt_irrefl _)) (.string emp)).setCell (p := ⟨w.heap.size, 4, none⟩) (fun h => absurd h (Nat.lt_irrefl _)) (.slice hA p.l.length hc)).alloc (.cells #[.int .u8 4, .int .i64 p.at_, .int .i64 0, .string emp, .slice hA p.l.length hc] 33) |>.drew
    refine bodyPost_ret (v := .agg #[.int .u8 4, .int .i64 p.at_, .int .i64 0, .string emp, .slice hA p.l.length hc]) (by simp [results, Tryd.results20, go_sem]) rfl ⟨rfl, hF, _, HR.out.pop2 (op_front HR.out) hF hH⟩
end
end RC6
end Go.Proofs.YtbglcdjimipeeaaDoor
