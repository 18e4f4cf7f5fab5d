/-
  P7.3's law: data that were read, and are shown, are read again as they were. Condition: the numbers' table.
-/
import Derived.Test.YtbglcdjimipeeaaGreatDoorShowBackP
import Derived.Test.YtbglcdjimipeeaaGreatDoorShowMayP
import Derived.Test.YtbglcdjimipeeaaGreatDoorShowShown
import Derived.Test.YtbglcdjimipeeaaGreatDoorShowDigits
import Derived.Test.YtbglcdjimipeeaaGreatDoorReadLaws2
import Derived.Test.YtbglcdjimipeeaaGreatDoorReadLaws7
import Derived.IntWalk
namespace Go.Proofs.YtbglcdjimipeeaaGreatDoor
open Go.RowKit
set_option linter.unusedVariables false
namespace SX
open LX RX
theorem toD_toI (x : Nd) : toD (toI x) = x := by
  obtain ⟨a, b, c, d, l⟩ := x
  unfold toD toI
  simp only [List.map_map]
  have : l.map (Int.toNat ∘ fun p : Nat => (p : Int)) = l := by
    conv => rhs; rw [← List.map_id l]
    exact List.map_congr_left fun p _ => rfl
  rw [this]
theorem read_names {s : ByteArray} {r : Rd} (h : read s = .ok r) : ∀ x ∈ r.row, x.s.size ≤ 32 := by
  have hI := (read_inv (P := fun x => x.s.size ≤ 32) (Q := fun _ => True) (fun _ _ _ _ h => h) (fun _ _ _ => by show (emp).size ≤ 32; decide) h
    (fun _ hl => brings _ _ hl (fun _ _ _ _ => by show (emp).size ≤ 32; decide) (fun _ _ _ => by show (emp).size ≤ 32; decide) (fun t hi hk => by
      have := hi.good.size
      have e : tkB t = t.s := by unfold tkB; simp [hk]
      rw [e] at this
      exact this) (fun _ _ _ _ _ => trivial) (fun _ _ _ => ⟨fun _ _ => trivial, by show quoteB.size ≤ 32; decide⟩))).1
  exact fun x hx => (hI.good x hx).2
theorem read_small {s : ByteArray} {r : Rd} (h : read s = .ok r) : ∀ i, i < r.row.length → (dt r.row i).length ≤ 70000000 := by
  have hsz := read_sizes h
  have hok := read_ok_data h
  have e : (r.row.map toI).map toD = r.row := by
    rw [List.map_map]
    conv => rhs; rw [← List.map_id r.row]
    exact List.map_congr_left fun x _ => toD_toI x
  have hn := read_names h
  obtain ⟨_, _, h3⟩ := may_rows (r.row.map toI) (read_may h) 32 8000 (by omega) (fun x hx => by
    obtain ⟨y, hy, rfl⟩ := List.mem_map.1 hx
    exact hn y hy) (fun x hx => by
    obtain ⟨y, hy, rfl⟩ := List.mem_map.1 hx
    unfold toI
    rw [List.length_map]
    exact hsz.2.2 y hy) (fun x hx => by
    obtain ⟨y, hy, rfl⟩ := List.mem_map.1 hx
    obtain ⟨i, hi, rfl⟩ := List.getElem_of_mem hy
    have := hok.num i hi
    unfold ndAt at this
    rw [List.getD_eq_getElem?_getD, List.getElem?_eq_getElem hi] at this
    exact this)
  rw [e] at h3
  intro i hi
  have h4 := h3 i (by rw [List.length_map]; exact hi)
  have : (i + 1) * (32 + 8000 + 24) ≤ 8000 * 8056 := Nat.mul_le_mul (by omega) (by omega)
  omega
theorem backL_snoc (ns : List Nd) (l : List Nat) (i : Nat) : backL ns (l ++ [i]) = backL ns l ++ (dt ns i ++ [32]) := by
  unfold backL
  rw [List.flatMap_append]
  simp
theorem backL_len (ns : List Nd) (C : Nat) : ∀ l : List Nat, (∀ i ∈ l, (dt ns i).length ≤ C) → (backL ns l).length ≤ l.length * (C + 1) := by
  intro l
  induction l with
  | nil => intro _; simp [backL]
  | cons i l ih =>
    intro h
    have h1 := h i (List.mem_cons_self ..)
    have h2 := ih (fun j hj => h j (List.mem_cons_of_mem _ hj))
    unfold backL at h2 ⊢
    rw [List.flatMap_cons, List.length_append, List.length_append, List.length_singleton, List.length_cons, Nat.succ_mul]
    omega
end SX
namespace SW
open LX RX RW6 SX
set_option maxHeartbeats 4000000 in
set_option maxRecDepth 20000 in
theorem back_law (s : ByteArray) (w : World) (hT : Tab w) : Calls Tryz.prog 5 #[.string s] w fun e w' => e = .returned (.bool true) ∧ Below w.heap.size w w' := by
  have HS := Lib.hid (shown_any w hT)
  by_cases h5 : 1000 < s.size
  · clear hT
    go_enter Tryz.func5, Tryz.ntmps5
    go_wp2_with (go_at_call 13; (with_reducible refine HS.out.mono ?_); rintro e w1 ⟨rfl, hF1⟩)
    go_ret
    exact ⟨rfl, hF1.below_nil⟩
  · have H1 := Lib.hid (RC6.read_any s (by omega))
    cases hR : RX.read s with
    | error px =>
      rw [hR] at H1
      obtain ⟨p, x⟩ := px
      have de := read_errne hR
      have de1 : ¬ (x = 0) := by rwa [beq_eq_false_iff_ne] at de
      have de2 : (x != 0) = true := by simp [bne, de]
      clear hR hT
      go_enter Tryz.func5, Tryz.ntmps5
      go_wp2_with (first
        | (go_at_call 13; (with_reducible refine HS.out.mono ?_); rintro e w1 ⟨rfl, hF1⟩; have HF1 := Lib.hid hF1; clear hF1)
        | (go_at_call 22; refine (H1.out _).mono ?_; rintro e w2 ⟨rfl, hF2⟩; have HF2 := Lib.hid hF2; clear hF2))
      go_ret
      exact ⟨rfl, (HF1.out.trans HF2.out (by simp)).below_nil⟩
    | ok r =>
      have hsz := read_sizes hR
      rw [hR] at H1
      have hok := read_ok_data hR
      have hsm := read_small hR
      have hback : ∀ hl, _ := back_any hR
      have hmay := read_may hR
      have htl : ∀ i ∈ r.tops, i < r.row.length := fun i hi => (read_plain hR).1.lt (.inl hi)
      obtain ⟨N, hN⟩ : ∃ N, r.row.length = N := ⟨_, rfl⟩
      obtain ⟨M, hM⟩ : ∃ M, r.tops.length = M := ⟨_, rfl⟩
      have HDT := Lib.hid (fun (A : Option Addr) (c : Nat) (wx : World) (hN1 : NdRow wx A r.row) (hTx : Tab wx) (i : Nat) (hi : i ∈ r.tops) => datum_ok (DA := A) (n := N) (c := c) r.row hN (by omega) hok (fun x hx => by have := hsz.2.2 x hx; omega) hmay wx hN1 hTx i (by have := htl i hi; omega) (by have := hsm i (htl i hi); omega))
      have HSM := Lib.hid (fun (i : Nat) (hi : i ∈ r.tops) => hsm i (htl i hi))
      rw [hN, hM] at hsz
      have HSZ := Lib.hid hsz
      have HB := Lib.hid hback
      have HN := Lib.hid hN
      have HM := Lib.hid hM
      have HT := Lib.hid hT
      clear hR hsz hok hsm hback hmay htl hN hM hT
      go_enter Tryz.func5, Tryz.ntmps5
      go_wp2_with (first
        | (go_at_call 13; (with_reducible refine HS.out.mono ?_); rintro e w1 ⟨rfl, hF1⟩; have HF1 := Lib.hid hF1; clear hF1)
        | (go_at_call 22; refine (H1.out _).mono ?_; rintro e w2 ⟨rv, tv, rs, rfl, hD, hrs⟩
           obtain ⟨A, c, hrv, -, -, -, hN⟩ := hD.nodes
           obtain ⟨B, d, htv, -, -, -, hI⟩ := hD.tops_row
           have hlen : rs.length = N := by have := congrArg List.length hrs; rw [List.length_map] at this; exact this.trans HN.out
           rw [hlen] at hrv
           rw [HM.out] at htv
           subst hrv htv
           have HN2 := Lib.hid (hrs ▸ hN)
           have HI2 := Lib.hid hI
           have HF2 := Lib.hid hD.far
           clear hD hN hI hrs hlen))
      have HF0 : Hid (MM.Far [] w2 w2) := Lib.hid (MM.Far.refl _ _)
      go_loopw [8, 37] (fun s8 s37 wr => ∃ k : Nat, k ≤ M ∧ s8 = .string (str (backL r.row (r.tops.take k))) ∧ s37 = .int .i64 k ∧ Hid (MM.Far [] w2 wr)) (fun _ s37 _ => M - (intOf s37).toNat)
      case atStart => exact ⟨0, by omega, rfl, rfl, HF0⟩
      case round =>
        obtain ⟨k, hk, rfl, rfl, hF⟩ := hrel
        clear HF0
        have hM8 := HSZ.out.2.1
        have hbl : (str (backL r.row (r.tops.take k))).size ≤ 1000000000000 := by
          rw [str_size]
          have h1 := backL_len r.row 70000000 (r.tops.take k) (fun i hi => HSM.out i (List.mem_of_mem_take hi))
          have h2 : (r.tops.take k).length ≤ 8000 := by
            rw [List.length_take, HM.out]
            have := HSZ.out.2.1
            omega
          have : (r.tops.take k).length * (70000000 + 1) ≤ 8000 * 70000001 := Nat.mul_le_mul h2 (Nat.le_refl _)
          omega
        by_cases hlt : k < M
        · have hk2 : k < r.tops.length := by rw [HM.out]; exact hlt
          obtain ⟨b3, o3, rfl, hb3, y0⟩ := HI2.out k hk2
          have z0 := (hF.out.cell (p := ⟨b3, o3 + k, none⟩) hb3 (by simp)).trans y0
          have HD := Lib.hid (HDT.out A c wr (HN2.out.far hF.out) (HT.out.far ((HF1.out.trans HF2.out (by simp)).trans hF.out (by simp))) r.tops[k] (List.getElem_mem hk2))
          have hds : (str (dt r.row r.tops[k])).size ≤ 70000000 := by
            rw [str_size]; exact HSM.out _ (List.getElem_mem hk2)
          have HTK : Hid (str (backL r.row (r.tops.take (k + 1))) = str (backL r.row (r.tops.take k)) ++ (str (dt r.row r.tops[k]) ++ ⟨#[32]⟩)) := Lib.hid (by
            rw [List.take_succ_eq_append_getElem hk2, backL_snoc, ← str_two, ← str_two]; rfl)
          generalize str (dt r.row r.tops[k]) = D at *
          generalize r.tops[k] = p at *
          clear y0
          go_wp2_with (first
            | (go_at_call 10; ((with_reducible refine HD.out.mono ?_); rintro e w3 ⟨rfl, hF3⟩); have HF3 := Lib.hid hF3; clear hF3))
          go_roundw
          case rel => exact ⟨k + 1, by omega, by rw [HTK.out], by go_num, Lib.hid (hF.out.trans HF3.out (by simp))⟩
          case measure => simp [intOf]; omega
        · obtain rfl : k = M := by omega
          have hall : r.tops.take k = r.tops := List.take_of_length_le (by rw [HM.out]; exact Nat.le_refl _)
          rw [hall] at hbl ⊢
          clear hall
          by_cases h4 : (backL r.row r.tops).length ≤ 4000
          · obtain ⟨rb, hrb, hal, htp⟩ := HB.out h4
            have H2 := Lib.hid (RC6.read_any (str (backL r.row r.tops)) (by rw [str_size]; omega))
            rw [hrb] at H2
            have hsb := read_sizes hrb
            have hNb : rb.row.length = N := by have := congrArg List.length hal; have h2 := HN.out; simp at this; omega
            have HNb := Lib.hid hNb
            have HAL := Lib.hid hal
            have HTP := Lib.hid htp
            have h4s : (str (backL r.row r.tops)).size ≤ 4000 := by rw [str_size]; exact h4
            clear hrb hal htp hsb hNb h4 hbl
            generalize str (backL r.row r.tops) = S2 at *
            go_wp2_with (first
              | (go_at_call 22; ((with_reducible refine (H2.out _).mono ?_); rintro e w3 ⟨rv, tv, rs, rfl, hD, hrs⟩)
                 obtain ⟨A3, c3, hrv, -, -, -, hN⟩ := hD.nodes
                 obtain ⟨B3, d3, htv, -, -, -, hI⟩ := hD.tops_row
                 have hlen : rs.length = N := by have := congrArg List.length hrs; rw [List.length_map] at this; exact this.trans HNb.out
                 rw [hlen] at hrv
                 rw [HTP.out, HM.out] at htv
                 subst hrv htv
                 have HN3 := Lib.hid (hrs ▸ hN)
                 have HI3 := Lib.hid (HTP.out ▸ hI)
                 have HF3 := Lib.hid hD.far
                 clear hD hN hI hrs hlen)
              | (go_at_call 23; refine (ints_call (l := r.tops) (n := k) HM.out (by omega) ((HI2.out.far hF.out).far HF3.out) HI3.out).mono ?_; rintro e w5 ⟨rfl, hF5⟩; have HF5 := Lib.hid hF5; clear hF5))
            have hN8 := HSZ.out.1
            go_loopw [82] (fun s82 wr => ∃ j : Nat, j ≤ N ∧ s82 = .int .i64 j ∧ Hid (MM.Far [] w5 wr)) (fun s82 _ => N - (intOf s82).toNat)
            case atStart => exact ⟨0, by omega, rfl, Lib.hid (MM.Far.refl _ _)⟩
            case round =>
              obtain ⟨j, hj, rfl, hFj⟩ := hrel
              by_cases hlt : j < N
              · have hj1 : j < r.row.length := by rw [HN.out]; exact hlt
                have hj2 : j < rb.row.length := by rw [HNb.out]; exact hlt
                obtain ⟨g1, o1, L1, e1, rfl, hg1, a0, a1, a2, a3, a4, hI1⟩ := (((HN2.out.far hF.out).far (HF3.out.trans HF5.out (by simp))).far hFj.out) j hj1
                obtain ⟨g2, o2, L2, e2, rfl, hg2, b0, b1, b2, b3, b4, hI2⟩ := ((HN3.out.far HF5.out).far hFj.out) j hj2
                have hxy : bare rb.row[j] = bare r.row[j] := by
                  have h1 := congrArg (·[j]?) HAL.out
                  simpa [hj1, hj2] using h1
                have hxl := HSZ.out.2.2 _ (List.getElem_mem hj1)
                generalize r.row[j] = x at *
                generalize rb.row[j] = y at *
                obtain ⟨xk, xa, xn, xs, xl⟩ := x
                obtain ⟨yk, ya, yn, ys, yl⟩ := y
                simp only [bare, Nd.mk.injEq] at hxy
                obtain ⟨rfl, -, rfl, rfl, rfl⟩ := hxy
                simp only at a0 a1 a2 a3 a4 b0 b1 b2 b3 b4 hI1 hI2 hxl
                rename_i xk xn xs xl
                obtain ⟨n1, hn1⟩ : ∃ n1, yl.length = n1 := ⟨_, rfl⟩
                rw [hn1] at a4 b4 hxl
                have HN1 := Lib.hid hn1
                have HI1 := Lib.hid hI1
                have HI2' := Lib.hid hI2
                have HC := Lib.hid (fun o1 o2 => one_same wr yk yn ys L1 L2 n1 e1 e2 yl HN1.out (by omega) HI1.out HI2'.out o1 o2)
                clear hn1 hI1 hI2 hj1 hj2
                go_wp2_with (fail)
                go_region
                all_goals
                  go_wp2_with (go_at_call 24; ((with_reducible refine (HC.out _ _).mono ?_); rintro e w6 ⟨rfl, hF6⟩; have HF6 := Lib.hid hF6; clear hF6))
                  go_roundw
                  case rel => exact ⟨j + 1, by omega, by go_num, Lib.hid (hFj.out.trans HF6.out (by simp))⟩
                  case measure => simp [intOf]; omega
              · obtain rfl : j = N := by omega
                go_wp2
                go_ret
                exact ⟨rfl, ((((HF1.out.trans HF2.out (by simp)).trans hF.out (by simp)).trans (HF3.out.trans HF5.out (by simp)) (by simp)).trans hFj.out (by simp)).below_nil⟩
          · have h4s : 4000 < (str (backL r.row r.tops)).size := by rw [str_size]; omega
            clear h4
            go_wp2
            go_ret
            exact ⟨rfl, ((HF1.out.trans HF2.out (by simp)).trans hF.out (by simp)).below_nil⟩
end SW
end Go.Proofs.YtbglcdjimipeeaaGreatDoor
