/-
  Contracts of the document's arena that write: New, Set, Alloc. Conditions: its rows are as the list of things says, a word lies in 64 bits, what is handed over lies elsewhere.
-/
import Derived.Test.YtfjijcepggmigaaRefWalks1
import Derived.Deep.RegionLaw
import Derived.Deep.QuietTactic
import Derived.BigQuiet
namespace Go.Proofs.Ytfjijcepggmigaa
open Go.RowKit
namespace RW
open AW RP
def RMade (w : World) (base n : Nat) (e : Ending) (w' : World) : Prop :=
  ∃ q, e = .returned (.tuple #[ptr q, .int .i64 0]) ∧ w.heap.size ≤ q ∧ Rr w' base q n (.slice none 0 0) [] [] ∧ MM.Far [] w w'
theorem rnew_bad (w : World) (n : Int) (hb : n < 1 ∨ 65536 < n) : Calls Try.prog 10 #[.int .i64 n] w fun e w' => e = .returned (.tuple #[.pointer none, .int .i64 1]) ∧ w = w' := by
  by_cases h1 : n < 1
  · clear hb
    go_enter Try.func10, Try.ntmps10
    go_wp2
    go_ret2
    exact ⟨rfl, rfl⟩
  · have h2 : 65536 < n := by omega
    clear hb
    go_enter Try.func10, Try.ntmps10
    go_wp2
    go_ret2
    exact ⟨rfl, rfl⟩
theorem rnew_ok (w : World) (base n : Nat) (h1 : 1 ≤ n) (h2 : n ≤ 65536) : Calls Try.prog 10 #[.int .i64 n] w (RMade w base n) := by
  go_enter Try.func10, Try.ntmps10
  go_wp2
  go_ret2
  exact ⟨_, rfl, Nat.le_refl _, ⟨ok_nil n h2, MM.Row.new w _ [.int .i64 n, .int .i64 0, .slice none 0 0], MO.none_ _ _ _ _, MN.Kids.nil _ _ _⟩, (MM.Far.refl _ _).alloc _⟩
section
variable {w : World} {base q n : Nat} {v : Value} {ts : List AP.Th} {hs : List Value}
theorem Rr.put (hR : Rr w base q n v ts hs) {i gq d j : Nat} {x : Int} (hi : i < ts.length) (hh : hs[i]? = some (.slice (some ⟨gq, 0, none⟩) (AP.th ts i).l.length d)) (hx : WP.U x) :
    Rr (w.setCell ⟨gq, j, none⟩ (.int .u64 x)) base q n v (AP.put ts i j x) hs ∧ base ≤ gq ∧ ∀ t l, MM.Row w gq t l → t = 33 ∨ t = 43 := by
  have hm : Value.slice (some ⟨gq, 0, none⟩) (AP.th ts i).l.length d ∈ hs := List.mem_of_getElem? hh
  have hlow := hR.kids.low _ hm gq rfl
  have hl : (ts.map fun t => U64s t.l)[i]? = some (U64s (AP.th ts i).l) := by
    rw [List.getElem?_map, List.getElem?_eq_getElem hi]
    simp [AP.th, List.getD, List.getElem?_eq_getElem hi]
  have hrow := hR.kids.each i _ _ hh hl
  have hone := (MM.Far.refl [gq] w).setCell (p := ⟨gq, j, none⟩) (by simp) (.int .u64 x)
  refine ⟨⟨ok_put hR.ok _ _ _ hx, ?_, ?_, ?_⟩, hlow.2, fun t l hr => .inl (row_type hrow rfl hr)⟩
  · rw [AP.sz_put]
    refine hR.head.far hone (fun hm => ?_)
    have : q = gq := by simpa using hm
    subst this
    exact MM.own_row_ne hrow hR.head (by decide) rfl
  · rw [AP.len_put, rc_put]
    exact MM.own_far hR.row hone (fun b hb hm => by
      have : b = gq := by simpa using hm
      subst this
      exact MM.own_own_ne hR.row hrow (by decide) b hb rfl)
  · have := hR.kids.put hh hl (by simp [U64s]) j (.int .u64 x)
    have e : (ts.map fun t => U64s t.l).set i ((U64s (AP.th ts i).l).set j (.int .u64 x)) = (AP.put ts i j x).map fun t => U64s t.l := by
      apply List.ext_getElem?
      intro k
      by_cases ei : k = i
      · subst ei
        rw [List.getElem?_set_self (by simpa using hi), List.getElem?_map]
        simp only [AP.put, List.getElem?_modify]
        simp [AP.th, List.getD, hi, U64s, List.map_set]
      · rw [List.getElem?_set_ne (fun h => ei h.symm), List.getElem?_map, List.getElem?_map]
        have ei' : ¬ i = k := fun h => ei h.symm
        simp [AP.put, ei']
    rw [← e]; exact this
theorem rset_any (hR : Rr w base q n v ts hs) (x : Int) (hx : WP.U x) (j y : Int) (hy : WP.U y) :
    Calls Try.prog 16 #[ptr q, .int .u64 x, .int .i64 j, .int .u64 y] w fun e w' => e = .returned (.int .i64 (getE ts x j)) ∧ Rr w' base q n v (setT ts x j y) hs ∧ Fr q base w w' := by
  have HF := Lib.hid (rfind_any hR x hx)
  have h2 := hR.head.at (i := 2) rfl
  have HR := Lib.hid hR
  cases hl : AW.look ts x with
  | none =>
    have H2 := Lib.hid (show getE ts x j = 2 by unfold getE; rw [hl])
    have H1 := Lib.hid (show setT ts x j y = ts by unfold setT; rw [hl])
    rw [ridx_none hl] at HF
    clear hx hR hl hy
    go_enter Try.func16, Try.ntmps16
    go_wp2_with (first | (go_at_call 28; refine HF.out.mono ?_; rintro e w' ⟨rfl, rfl⟩))
    go_ret
    refine ⟨AW.ret_u H2.out.symm, ?_, Fr.refl _ _ _⟩
    rw [H1.out]; exact HR.out
  | some i =>
    have hfo := AL.found hl j
    rw [ridx_some hl] at HF
    obtain ⟨a, ha, hal⟩ := toN_nat x hx
    have hi := (AP.idx_some (look_idx hl ha)).1
    obtain ⟨g, c', A, d, e, hg1, hg2, hc0, hc1, hc2, hhd, hkid, hA⟩ := hR.at hi
    have hN6 : ts.length ≤ 65536 := by
      have := len_le_sz ts
      have := hR.ok.room
      have := hR.ok.size
      omega
    have hl255 := (hR.ok.each i hi).2.2.1
    rw [e] at h2
    clear hc0 hc1 e ha
    by_cases hj : 0 ≤ j ∧ j < (AP.th ts i).l.length
    · obtain ⟨k, rfl⟩ : ∃ k : Nat, j = k := ⟨j.toNat, by omega⟩
      have hk : k < (AP.th ts i).l.length := by omega
      obtain ⟨gq, rfl, hq1, hq2⟩ := hA (by omega)
      have hcq : ∃ o, w.cell? ⟨gq, k, none⟩ = some o := by
        rw [hkid.cellAt k (by omega)]
        exact ⟨_, List.getElem?_eq_getElem (by simp [U64s]; omega)⟩
      obtain ⟨o, hcq⟩ := hcq
      have hfz := hkid.frozenAt k
      have H2 := Lib.hid (show getE ts x k = 0 by rw [hfo.1, if_pos hj])
      have H1 := Lib.hid (show setT ts x k y = AP.put ts i k y by rw [hfo.2.2.2.2, if_pos hj, Int.toNat_natCast])
      have HE := Lib.hid (hR.put (j := k) hi hhd hy)
      obtain ⟨l0, hl0⟩ : ∃ l0, (AP.th ts i).l.length = l0 := ⟨_, rfl⟩
      rw [hl0] at hc2 hk hl255
      clear hfo hkid hl hl0 hj hA hR hx hy hhd
      go_enter Try.func16, Try.ntmps16
      go_wp2_with (first | (go_at_call 28; refine HF.out.mono ?_; rintro e w' ⟨rfl, rfl⟩))
      go_ret
      refine ⟨AW.ret_u H2.out.symm, ?_, ⟨[gq], (MM.Far.refl _ _).setCell (by simp) _, fun b hb => ?_⟩⟩
      · rw [H1.out]; exact HE.out.1
      · have : b = gq := by simpa using hb
        subst this
        exact .inr HE.out.2
    · have H2 := Lib.hid (show getE ts x j = 1 by rw [hfo.1, if_neg hj])
      have H1 := Lib.hid (show setT ts x j y = ts by rw [hfo.2.2.2.2, if_neg hj])
      obtain ⟨l0, hl0⟩ : ∃ l0, (AP.th ts i).l.length = l0 := ⟨_, rfl⟩
      rw [hl0] at hc2 hj hl255
      clear hfo hkid hl hl0 hA hR hx hy hhd
      by_cases hj0 : j < 0
      · clear hj
        go_enter Try.func16, Try.ntmps16
        go_wp2_with (first | (go_at_call 28; refine HF.out.mono ?_; rintro e w' ⟨rfl, rfl⟩))
        go_ret
        refine ⟨AW.ret_u H2.out.symm, ?_, Fr.refl _ _ _⟩
        rw [H1.out]; exact HR.out
      · have hj1 : (l0 : Int) ≤ j := by omega
        clear hj
        go_enter Try.func16, Try.ntmps16
        go_wp2_with (first | (go_at_call 28; refine HF.out.mono ?_; rintro e w' ⟨rfl, rfl⟩))
        go_ret
        refine ⟨AW.ret_u H2.out.symm, ?_, Fr.refl _ _ _⟩
        rw [H1.out]; exact HR.out
end
end RW
end Go.Proofs.Ytfjijcepggmigaa
