/-
  Layer 8's law of texts one behind the other. No condition.
-/
import Derived.Test.YtpbfgfadickgbaaExpTp3
import Derived.Test.YtpbfgfadickgbaaExpNm2
import Derived.IntWalk
namespace Go.Proofs.Ytpbfgfadickgbaa
open Go.RowKit
set_option linter.unusedVariables false
namespace EW
open LX SX RW6 EX
open RX (Nd Rd shR)
theorem error_at2 {s : ByteArray} {r : Rd} {a : Int} (hR : RX.read s = .ok r) (h : EX.expand r.row r.tops = .error a) : 0 ≤ a ∧ a < s.size := by
  refine error_at (read_ok_data hR) (Q := fun x => 0 ≤ x ∧ x < s.size) (fun i hi => ?_) (fun i hi => read_wt hR i hi) h
  have e : ndAt r.row i = r.row[i] := by
    unfold ndAt
    rw [List.getD_eq_getElem?_getD, List.getElem?_eq_getElem hi]; rfl
  rw [e]
  obtain ⟨g1, g2⟩ := (RX.read_plain hR).1.good _ (List.getElem_mem hi)
  exact ⟨g1.1, g2⟩
theorem nodup_le2 : ∀ (n : Nat) (l : List Nat), l.Nodup → (∀ a ∈ l, a < n) → l.length ≤ n := by
  intro n
  induction n with
  | zero => intro l _ h; cases l with
    | nil => exact Nat.le_refl _
    | cons a l => have := h a (List.mem_cons_self ..); omega
  | succ n ih =>
    intro l hn h
    have h1 := ih (l.erase n) (hn.erase n) (fun a ha => by
      have h2 := (hn.mem_erase_iff).1 ha
      have := h a h2.2
      have := h2.1
      omega)
    by_cases hm : n ∈ l
    · rw [List.length_erase_of_mem hm] at h1; omega
    · rw [List.erase_of_not_mem hm] at h1; omega
theorem forms_small {s : ByteArray} {r : Rd} {fs : List Fm} {ts : List Nat} (h : FormsOf s r fs ts) : ∀ x ∈ fs, x.l.length ≤ fs.length ∧ x.p.length ≤ 100 := by
  intro x hx
  obtain ⟨k, hk, rfl⟩ := List.getElem_of_mem hx
  obtain ⟨g1, g2⟩ := h.made k hk
  refine ⟨?_, g1.names.few⟩
  have h1 : (fs[k]).l.Nodup := List.nodup_iff_count.2 fun a => by
    by_cases ha : a ∈ (fs[k]).l
    · have h5 : (fs[k]).l.count a ≤ EX.cnt fs a := by
        unfold EX.cnt
        have e : fs = fs.take k ++ (fs[k] :: fs.drop (k + 1)) := by rw [← List.drop_eq_getElem_cons hk, List.take_append_drop]
        conv => rhs; rw [e]
        rw [List.flatMap_append, List.flatMap_cons, List.count_append, List.count_append]
        omega
      have h6 := h.one a
      split at h6 <;> omega
    · rw [List.count_eq_zero_of_not_mem ha]; omega
  exact nodup_le2 _ _ h1 (fun a ha => by have := (g2 a ha).1; simp at this; omega)
set_option maxHeartbeats 8000000 in
set_option maxRecDepth 100000 in
theorem tops_any (s t : ByteArray) (w : World) : Calls Try.prog 5 #[.string s, .string t] w fun e w' => e = .returned (.bool true) ∧ Below w.heap.size w w' := by
  have HS := Lib.hid shown_any
  by_cases h5 : 400 < s.size
  · have h5i : (400 : Int) < (s.size : Int) := by omega
    go_enter Try.func5, Try.ntmps5
    go_wp2_with (go_at_call 7; (with_reducible refine (HS.out _).mono ?_); rintro e w1 ⟨rfl, hF1⟩; have HF1 := Lib.hid hF1; clear hF1)
    go_ret
    exact ⟨rfl, HF1.out.below_nil⟩
  · have h5i : ¬ (400 : Int) < (s.size : Int) := by omega
    have h5d : decide ((400 : Int) < (s.size : Int)) = false := by rw [decide_eq_false_iff_not]; exact h5i
    by_cases h6 : 400 < t.size
    · have h6i : (400 : Int) < (t.size : Int) := by omega
      go_enter Try.func5, Try.ntmps5
      go_wp2_with (go_at_call 7; (with_reducible refine (HS.out _).mono ?_); rintro e w1 ⟨rfl, hF1⟩; have HF1 := Lib.hid hF1; clear hF1)
      go_ret
      exact ⟨rfl, HF1.out.below_nil⟩
    · have h6i : ¬ (400 : Int) < (t.size : Int) := by omega
      have h6d : decide ((400 : Int) < (t.size : Int)) = false := by rw [decide_eq_false_iff_not]; exact h6i
      have H1 := Lib.hid (fun w' => RM6.rread_any s (by omega) w')
      have H2 := Lib.hid (fun w' => RM6.rread_any t (by omega) w')
      obtain ⟨Ra, hRa⟩ : ∃ R, RX.read s = R := ⟨_, rfl⟩
      obtain ⟨Rb, hRb⟩ : ∃ R, RX.read t = R := ⟨_, rfl⟩
      cases Ra with
      | error pe =>
        obtain ⟨p, x⟩ := pe
        have de := RX.read_errne hRa
        have de1 : ¬ (x = 0) := by rwa [beq_eq_false_iff_ne] at de
        have de2 : (x != 0) = true := by simp [bne, de]
        rw [hRa] at H1
        cases Rb with
        | error pe2 =>
          obtain ⟨q, z⟩ := pe2
          rw [hRb] at H2
          clear hRa hRb
          go_enter Try.func5, Try.ntmps5
          go_wp2_with (go_at_call 7; (with_reducible refine (HS.out _).mono ?_); rintro e w1 ⟨rfl, hF1⟩; have HF1 := Lib.hid hF1; clear hF1)
          refine (H1.out _).mono ?_
          rintro e w2 hQ
          obtain ⟨rfl, hF⟩ : e = .returned (.tuple #[.slice none 0 0, .slice none 0 0, .int .i64 p, .int .i64 x]) ∧ MM.Far [] w1 w2 := hQ
          have HF2 := Lib.hid hF
          clear hF
          go_wp2_with fail
          refine (H2.out _).mono ?_
          rintro e w3 hQ
          obtain ⟨rfl, hF⟩ : e = .returned (.tuple #[.slice none 0 0, .slice none 0 0, .int .i64 q, .int .i64 z]) ∧ MM.Far [] w2 w3 := hQ
          have HF3 := Lib.hid hF
          clear hF
          go_wp2_with fail
          go_ret
          exact ⟨rfl, ((HF1.out.trans HF2.out (by simp)).trans HF3.out (by simp)).below_nil⟩
        | ok rb =>
          rw [hRb] at H2
          obtain ⟨nb, hnb⟩ : ∃ n, rb.row.length = n := ⟨_, rfl⟩
          obtain ⟨mb, hmb⟩ : ∃ n, rb.tops.length = n := ⟨_, rfl⟩
          have HNb := Lib.hid hnb
          have HMb := Lib.hid hmb
          clear hRa hRb hnb hmb
          go_enter Try.func5, Try.ntmps5
          go_wp2_with (go_at_call 7; (with_reducible refine (HS.out _).mono ?_); rintro e w1 ⟨rfl, hF1⟩; have HF1 := Lib.hid hF1; clear hF1)
          refine (H1.out _).mono ?_
          rintro e w2 hQ
          obtain ⟨rfl, hF⟩ : e = .returned (.tuple #[.slice none 0 0, .slice none 0 0, .int .i64 p, .int .i64 x]) ∧ MM.Far [] w1 w2 := hQ
          have HF2 := Lib.hid hF
          clear hF
          go_wp2_with fail
          refine (H2.out _).mono ?_
          rintro e w3 ⟨rv, tv, rs, rfl, hD, hrs⟩
          obtain ⟨Ab, cb, hrv, -, -, -, -⟩ := hD.nodes
          obtain ⟨Bb, db, htv, -, -, -, -⟩ := hD.tops_row
          have hlen : rs.length = nb := by have := congrArg List.length hrs; rw [List.length_map] at this; exact this.trans HNb.out
          rw [hlen] at hrv
          rw [HMb.out] at htv
          subst hrv htv
          have HF3 := Lib.hid hD.far
          clear hD hrs hlen
          go_wp2_with fail
          go_ret
          exact ⟨rfl, ((HF1.out.trans HF2.out (by simp)).trans HF3.out (by simp)).below_nil⟩
      | ok ra =>
        rw [hRa] at H1
        obtain ⟨na, hna⟩ : ∃ n, ra.row.length = n := ⟨_, rfl⟩
        obtain ⟨ma, hma⟩ : ∃ n, ra.tops.length = n := ⟨_, rfl⟩
        have HNa := Lib.hid hna
        have HMa := Lib.hid hma
        have hsa := RX.read_sizes hRa
        rw [hna, hma] at hsa
        obtain ⟨hsa1, hsa2, -⟩ := hsa
        cases Rb with
        | error pe2 =>
          obtain ⟨q, z⟩ := pe2
          have de := RX.read_errne hRb
          have de1 : ¬ (z = 0) := by rwa [beq_eq_false_iff_ne] at de
          have de2 : (z != 0) = true := by simp [bne, de]
          rw [hRb] at H2
          clear hRa hRb hna hma
          go_enter Try.func5, Try.ntmps5
          go_wp2_with (go_at_call 7; (with_reducible refine (HS.out _).mono ?_); rintro e w1 ⟨rfl, hF1⟩; have HF1 := Lib.hid hF1; clear hF1)
          refine (H1.out _).mono ?_
          rintro e w2 ⟨rv, tv, rs, rfl, hD, hrs⟩
          obtain ⟨Aa, ca, hrv, -, -, -, -⟩ := hD.nodes
          obtain ⟨Ba, da, htv, -, -, -, -⟩ := hD.tops_row
          have hlen : rs.length = na := by have := congrArg List.length hrs; rw [List.length_map] at this; exact this.trans HNa.out
          rw [hlen] at hrv
          rw [HMa.out] at htv
          subst hrv htv
          have HF2 := Lib.hid hD.far
          clear hD hrs hlen
          go_wp2_with fail
          refine (H2.out _).mono ?_
          rintro e w3 hQ
          obtain ⟨rfl, hF⟩ : e = .returned (.tuple #[.slice none 0 0, .slice none 0 0, .int .i64 q, .int .i64 z]) ∧ MM.Far [] w2 w3 := hQ
          have HF3 := Lib.hid hF
          clear hF
          go_wp2_with fail
          go_ret
          exact ⟨rfl, ((HF1.out.trans HF2.out (by simp)).trans HF3.out (by simp)).below_nil⟩
        | ok rb =>
          rw [hRb] at H2
          obtain ⟨nb, hnb⟩ : ∃ n, rb.row.length = n := ⟨_, rfl⟩
          obtain ⟨mb, hmb⟩ : ∃ n, rb.tops.length = n := ⟨_, rfl⟩
          have HNb := Lib.hid hnb
          have HMb := Lib.hid hmb
          have hsb := RX.read_sizes hRb
          rw [hnb, hmb] at hsb
          obtain ⟨hsb1, hsb2, -⟩ := hsb
          obtain ⟨y, hy⟩ : ∃ y, s ++ ⟨#[10]⟩ ++ t = y := ⟨_, rfl⟩
          have hys : y.size ≤ 801 := by rw [← hy, size_append, size_append]; show s.size + 1 + t.size ≤ 801; omega
          have HY := Lib.hid hy
          have hRy := RX.read_joined s t y (by omega) (by omega) hy hRa
          rw [hRb] at hRy
          simp only at hRy
          have hj := tops_joined hRa hRb (s.size + 1)
          have HOS := Lib.hid (fun w' => of_any s (by omega) w')
          have HOT := Lib.hid (fun w' => of_any t (by omega) w')
          have HOY := Lib.hid (fun w' => of_any y (by omega) w')
          rw [show ofM s = EX.expand ra.row ra.tops by unfold ofM; rw [hRa]] at HOS
          rw [show ofM t = EX.expand rb.row rb.tops by unfold ofM; rw [hRb]] at HOT
          rw [show ofM y = EX.expand (shR (s.size + 1) ra.row ra.tops rb).row (shR (s.size + 1) ra.row ra.tops rb).tops by unfold ofM; rw [hRy], hj] at HOY
          have hfo := fun fs ts => forms_of (fs := fs) (ts := ts) hRa
          have hfp := fun fs ts => forms_of (fs := fs) (ts := ts) hRb
          have her := fun a => error_at2 (a := a) hRb
          have hmn : mb ≤ nb := by
            have hI := (RX.read_plain hRb).1
            have h1 : rb.tops.Nodup := hI.up.imp (fun h => by omega)
            have := nodup_le2 rb.row.length rb.tops h1 (fun a ha => hI.lt (.inl ha))
            omega
          clear hj hRy
          obtain ⟨X, hX⟩ : ∃ X, EX.expand ra.row ra.tops = X := ⟨_, rfl⟩
          obtain ⟨Y, hY⟩ : ∃ Y, EX.expand rb.row rb.tops = Y := ⟨_, rfl⟩
          rw [hX] at HOS HOY hfo
          rw [hY] at HOT HOY hfp her
          clear hX hY hRa hRb hy hna hma hnb hmb
          cases X with
          | error a =>
            simp only at HOY
            cases Y with
            | error b =>
              clear hfo hfp her
              go_enter Try.func5, Try.ntmps5
              go_wp2_with (go_at_call 7; (with_reducible refine (HS.out _).mono ?_); rintro e w1 ⟨rfl, hF1⟩; have HF1 := Lib.hid hF1; clear hF1)
              refine (H1.out _).mono ?_
              rintro e w2 ⟨rv, tv, rs, rfl, hD, hrs⟩
              obtain ⟨Aa, ca, hrv, -, -, -, -⟩ := hD.nodes
              obtain ⟨Ba, da, htv, -, -, -, -⟩ := hD.tops_row
              have hlen : rs.length = na := by have := congrArg List.length hrs; rw [List.length_map] at this; exact this.trans HNa.out
              rw [hlen] at hrv
              rw [HMa.out] at htv
              subst hrv htv
              have HF2 := Lib.hid hD.far
              clear hD hrs hlen
              go_wp2_with fail
              refine (H2.out _).mono ?_
              rintro e w3 ⟨rv, tv, rs, rfl, hD, hrs⟩
              obtain ⟨Ab, cb, hrv, -, -, -, -⟩ := hD.nodes
              obtain ⟨Bb, db, htv, -, -, -, -⟩ := hD.tops_row
              have hlen : rs.length = nb := by have := congrArg List.length hrs; rw [List.length_map] at this; exact this.trans HNb.out
              rw [hlen] at hrv
              rw [HMb.out] at htv
              subst hrv htv
              have HF3 := Lib.hid hD.far
              clear hD hrs hlen
              go_wp2_with fail
              refine Calls.mono (ocall_at (by with_reducible rfl) (HOS.out _)) ?_
              rintro e w4 hQ
              obtain ⟨rfl, hF⟩ : e = .returned (.tuple #[.slice none 0 0, .slice none 0 0, .int .i64 a, .int .i64 80]) ∧ MM.Far [] w3 w4 := hQ
              have HF4 := Lib.hid hF
              clear hF
              go_wp2_with fail
              refine Calls.mono (ocall_at (by with_reducible rfl) (HOT.out _)) ?_
              rintro e w5 hQ
              obtain ⟨rfl, hF⟩ : e = .returned (.tuple #[.slice none 0 0, .slice none 0 0, .int .i64 b, .int .i64 80]) ∧ MM.Far [] w4 w5 := hQ
              have HF5 := Lib.hid hF
              clear hF
              go_wp2_with fail
              refine Calls.mono (ocall_at (by with_reducible exact HY.out.symm) (HOY.out _)) ?_
              rintro e w6 hQ
              obtain ⟨rfl, hF⟩ : e = .returned (.tuple #[.slice none 0 0, .slice none 0 0, .int .i64 a, .int .i64 80]) ∧ MM.Far [] w5 w6 := hQ
              have HF6 := Lib.hid hF
              clear hF
              go_wp2
              go_ret
              exact ⟨rfl, (((((HF1.out.trans HF2.out (by simp)).trans HF3.out (by simp)).trans HF4.out (by simp)).trans HF5.out (by simp)).trans HF6.out (by simp)).below_nil⟩
            | ok yy =>
              obtain ⟨fb, tb⟩ := yy
              obtain ⟨kb, hkb⟩ : ∃ n, fb.length = n := ⟨_, rfl⟩
              have HKb := Lib.hid hkb
              clear hfo hfp her hkb
              go_enter Try.func5, Try.ntmps5
              go_wp2_with (go_at_call 7; (with_reducible refine (HS.out _).mono ?_); rintro e w1 ⟨rfl, hF1⟩; have HF1 := Lib.hid hF1; clear hF1)
              refine (H1.out _).mono ?_
              rintro e w2 ⟨rv, tv, rs, rfl, hD, hrs⟩
              obtain ⟨Aa, ca, hrv, -, -, -, -⟩ := hD.nodes
              obtain ⟨Ba, da, htv, -, -, -, -⟩ := hD.tops_row
              have hlen : rs.length = na := by have := congrArg List.length hrs; rw [List.length_map] at this; exact this.trans HNa.out
              rw [hlen] at hrv
              rw [HMa.out] at htv
              subst hrv htv
              have HF2 := Lib.hid hD.far
              clear hD hrs hlen
              go_wp2_with fail
              refine (H2.out _).mono ?_
              rintro e w3 ⟨rv, tv, rs, rfl, hD, hrs⟩
              obtain ⟨Ab, cb, hrv, -, -, -, -⟩ := hD.nodes
              obtain ⟨Bb, db, htv, -, -, -, -⟩ := hD.tops_row
              have hlen : rs.length = nb := by have := congrArg List.length hrs; rw [List.length_map] at this; exact this.trans HNb.out
              rw [hlen] at hrv
              rw [HMb.out] at htv
              subst hrv htv
              have HF3 := Lib.hid hD.far
              clear hD hrs hlen
              go_wp2_with fail
              refine Calls.mono (ocall_at (by with_reducible rfl) (HOS.out _)) ?_
              rintro e w4 hQ
              obtain ⟨rfl, hF⟩ : e = .returned (.tuple #[.slice none 0 0, .slice none 0 0, .int .i64 a, .int .i64 80]) ∧ MM.Far [] w3 w4 := hQ
              have HF4 := Lib.hid hF
              clear hF
              go_wp2_with fail
              refine Calls.mono (ocall_at (by with_reducible rfl) (HOT.out _)) ?_
              rintro e w5 ⟨fvb, tvb, rsb, rfl, hD, hrs⟩
              obtain ⟨Fb, fcb, rfl, hflb, hfmb, hfzb, hfr⟩ := hD.rows
              obtain ⟨Tb, tcb, rfl, htlb, htmb, htzb, htr⟩ := hD.tops_row
              have hlb : rsb.length = kb := by have := congrArg List.length hrs; rw [List.length_map] at this; exact this.trans HKb.out
              rw [hlb] at hflb ⊢
              have HDb := Lib.hid hD.r
              have HRSb := Lib.hid hrs
              rw [hrs] at hfr
              have HFRb := Lib.hid hfr
              have HF5 := Lib.hid hD.far
              have HLb := Lib.hid hlb
              have HTRb := Lib.hid htr
              clear hD hrs hlb hfr htr
              go_wp2_with fail
              refine Calls.mono (ocall_at (by with_reducible exact HY.out.symm) (HOY.out _)) ?_
              rintro e w6 hQ
              obtain ⟨rfl, hF⟩ : e = .returned (.tuple #[.slice none 0 0, .slice none 0 0, .int .i64 a, .int .i64 80]) ∧ MM.Far [] w5 w6 := hQ
              have HF6 := Lib.hid hF
              clear hF
              go_wp2
              go_ret
              exact ⟨rfl, (((((HF1.out.trans HF2.out (by simp)).trans HF3.out (by simp)).trans HF4.out (by simp)).trans HF5.out (by simp)).trans HF6.out (by simp)).below_nil⟩
          | ok xx =>
            obtain ⟨fa, ta⟩ := xx
            obtain ⟨ka, hka⟩ : ∃ n, fa.length = n := ⟨_, rfl⟩
            have HKa := Lib.hid hka
            cases Y with
            | error b =>
              simp only at HOY
              have hb0 := her b rfl
              have hpos : b + ((s.size + 1 : Nat) : Int) = b + (s.size : Int) + 1 := by omega
              rw [hpos] at HOY
              obtain ⟨hb1, hb2⟩ := hb0
              have hb3 : b ≤ 400 := by omega
              clear hfo hfp her hka hpos hb2
              go_enter Try.func5, Try.ntmps5
              go_wp2_with (go_at_call 7; (with_reducible refine (HS.out _).mono ?_); rintro e w1 ⟨rfl, hF1⟩; have HF1 := Lib.hid hF1; clear hF1)
              refine (H1.out _).mono ?_
              rintro e w2 ⟨rv, tv, rs, rfl, hD, hrs⟩
              obtain ⟨Aa, ca, hrv, -, -, -, -⟩ := hD.nodes
              obtain ⟨Ba, da, htv, -, -, -, -⟩ := hD.tops_row
              have hlen : rs.length = na := by have := congrArg List.length hrs; rw [List.length_map] at this; exact this.trans HNa.out
              rw [hlen] at hrv
              rw [HMa.out] at htv
              subst hrv htv
              have HF2 := Lib.hid hD.far
              clear hD hrs hlen
              go_wp2_with fail
              refine (H2.out _).mono ?_
              rintro e w3 ⟨rv, tv, rs, rfl, hD, hrs⟩
              obtain ⟨Ab, cb, hrv, -, -, -, -⟩ := hD.nodes
              obtain ⟨Bb, db, htv, -, -, -, -⟩ := hD.tops_row
              have hlen : rs.length = nb := by have := congrArg List.length hrs; rw [List.length_map] at this; exact this.trans HNb.out
              rw [hlen] at hrv
              rw [HMb.out] at htv
              subst hrv htv
              have HF3 := Lib.hid hD.far
              clear hD hrs hlen
              go_wp2_with fail
              refine Calls.mono (ocall_at (by with_reducible rfl) (HOS.out _)) ?_
              rintro e w4 ⟨fva, tva, rsa, rfl, hD, hrs⟩
              obtain ⟨Fa, fca, rfl, hfla, hfma, hfza, hfr⟩ := hD.rows
              obtain ⟨Ta, tca, rfl, htla, htma, htza, htr⟩ := hD.tops_row
              have hla : rsa.length = ka := by have := congrArg List.length hrs; rw [List.length_map] at this; exact this.trans HKa.out
              rw [hla] at hfla ⊢
              have HDa := Lib.hid hD.r
              have HRSa := Lib.hid hrs
              rw [hrs] at hfr
              have HFRa := Lib.hid hfr
              have HF4 := Lib.hid hD.far
              have HLa := Lib.hid hla
              have HTRa := Lib.hid htr
              clear hD hrs hla hfr htr
              go_wp2_with fail
              refine Calls.mono (ocall_at (by with_reducible rfl) (HOT.out _)) ?_
              rintro e w5 hQ
              obtain ⟨rfl, hF⟩ : e = .returned (.tuple #[.slice none 0 0, .slice none 0 0, .int .i64 b, .int .i64 80]) ∧ MM.Far [] w4 w5 := hQ
              have HF5 := Lib.hid hF
              clear hF
              go_wp2_with fail
              refine Calls.mono (ocall_at (by with_reducible exact HY.out.symm) (HOY.out _)) ?_
              rintro e w6 hQ
              obtain ⟨rfl, hF⟩ : e = .returned (.tuple #[.slice none 0 0, .slice none 0 0, .int .i64 (b + (s.size : Int) + 1), .int .i64 80]) ∧ MM.Far [] w5 w6 := hQ
              have HF6 := Lib.hid hF
              clear hF
              go_wp2
              go_ret
              exact ⟨rfl, (((((HF1.out.trans HF2.out (by simp)).trans HF3.out (by simp)).trans HF4.out (by simp)).trans HF5.out (by simp)).trans HF6.out (by simp)).below_nil⟩
            | ok yy =>
              obtain ⟨fb, tb⟩ := yy
              simp only at HOY
              rw [HNa.out, hka] at HOY
              have FAo := hfo fa ta rfl
              have FBo := hfp fb tb rfl
              clear hfo hfp her
              obtain ⟨kb, hkb⟩ : ∃ n, fb.length = n := ⟨_, rfl⟩
              have HKb := Lib.hid hkb
              obtain ⟨fc, hfc⟩ : ∃ f, fa ++ fb.map (shF (s.size + 1) na ka) = f := ⟨_, rfl⟩
              obtain ⟨tc, htc⟩ : ∃ f, ta ++ tb.map (· + ka) = f := ⟨_, rfl⟩
              rw [hfc, htc] at HOY
              obtain ⟨kc, hkc⟩ : ∃ n, fc.length = n := ⟨_, rfl⟩
              have HKc := Lib.hid hkc
              have HFC := Lib.hid hfc
              have HTC := Lib.hid htc
              have hkc2 : kc = ka + kb := by rw [← hkc, ← hfc, List.length_append, List.length_map, hka, hkb]
              have hta : ta.length = ma := FAo.tlen.trans HMa.out
              have htb : tb.length = mb := FBo.tlen.trans HMb.out
              have htc2 : tc.length = ma + mb := by rw [← htc, List.length_append, List.length_map, hta, htb]
              have hka8 : ka ≤ 12800 := by have := FAo.len; omega
              have hkb8 : kb ≤ 12800 := by have := FBo.len; omega
              have HTA := Lib.hid hta
              have HTB := Lib.hid htb
              have HTL := Lib.hid htc2
              have HFAo := Lib.hid FAo
              have HFBo := Lib.hid FBo
              subst hkc2
              clear hka hkb hfc htc hkc hta htb htc2 FAo FBo
              go_enter Try.func5, Try.ntmps5
              go_wp2_with (go_at_call 7; (with_reducible refine (HS.out _).mono ?_); rintro e w1 ⟨rfl, hF1⟩; have HF1 := Lib.hid hF1; clear hF1)
              refine (H1.out _).mono ?_
              rintro e w2 ⟨rv, tv, rs, rfl, hD, hrs⟩
              obtain ⟨Aa, ca, hrv, -, -, -, -⟩ := hD.nodes
              obtain ⟨Ba, da, htv, -, -, -, -⟩ := hD.tops_row
              have hlen : rs.length = na := by have := congrArg List.length hrs; rw [List.length_map] at this; exact this.trans HNa.out
              rw [hlen] at hrv
              rw [HMa.out] at htv
              subst hrv htv
              have HF2 := Lib.hid hD.far
              clear hD hrs hlen
              go_wp2_with fail
              refine (H2.out _).mono ?_
              rintro e w3 ⟨rv, tv, rs, rfl, hD, hrs⟩
              obtain ⟨Ab, cb, hrv, -, -, -, -⟩ := hD.nodes
              obtain ⟨Bb, db, htv, -, -, -, -⟩ := hD.tops_row
              have hlen : rs.length = nb := by have := congrArg List.length hrs; rw [List.length_map] at this; exact this.trans HNb.out
              rw [hlen] at hrv
              rw [HMb.out] at htv
              subst hrv htv
              have HF3 := Lib.hid hD.far
              clear hD hrs hlen
              go_wp2_with fail
              refine Calls.mono (ocall_at (by with_reducible rfl) (HOS.out _)) ?_
              rintro e w4 ⟨fva, tva, rsa, rfl, hD, hrs⟩
              obtain ⟨Fa, fca, rfl, hfla, hfma, hfza, hfr⟩ := hD.rows
              obtain ⟨Ta, tca, rfl, htla, htma, htza, htr⟩ := hD.tops_row
              have hla : rsa.length = ka := by have := congrArg List.length hrs; rw [List.length_map] at this; exact this.trans HKa.out
              rw [hla] at hfla ⊢
              have HDa := Lib.hid hD.r
              have HRSa := Lib.hid hrs
              rw [hrs] at hfr
              have HFRa := Lib.hid hfr
              have HF4 := Lib.hid hD.far
              have HLa := Lib.hid hla
              have HTRa := Lib.hid htr
              clear hD hrs hla hfr htr
              rw [HTA.out]
              go_wp2_with fail
              refine Calls.mono (ocall_at (by with_reducible rfl) (HOT.out _)) ?_
              rintro e w5 ⟨fvb, tvb, rsb, rfl, hD, hrs⟩
              obtain ⟨Fb, fcb, rfl, hflb, hfmb, hfzb, hfr⟩ := hD.rows
              obtain ⟨Tb, tcb, rfl, htlb, htmb, htzb, htr⟩ := hD.tops_row
              have hlb : rsb.length = kb := by have := congrArg List.length hrs; rw [List.length_map] at this; exact this.trans HKb.out
              rw [hlb] at hflb ⊢
              have HDb := Lib.hid hD.r
              have HRSb := Lib.hid hrs
              rw [hrs] at hfr
              have HFRb := Lib.hid hfr
              have HF5 := Lib.hid hD.far
              have HLb := Lib.hid hlb
              have HTRb := Lib.hid htr
              clear hD hrs hlb hfr htr
              rw [HTB.out]
              go_wp2_with fail
              refine Calls.mono (ocall_at (by with_reducible exact HY.out.symm) (HOY.out _)) ?_
              rintro e w6 ⟨fvc, tvc, rsc, rfl, hD, hrs⟩
              obtain ⟨Fc, fcc, rfl, hflc, hfmc, hfzc, hfr⟩ := hD.rows
              obtain ⟨Tc, tcc, rfl, htlc, htmc, htzc, htr⟩ := hD.tops_row
              have hlc : rsc.length = ka + kb := by have := congrArg List.length hrs; rw [List.length_map] at this; exact this.trans HKc.out
              rw [hlc] at hflc ⊢
              have HDc := Lib.hid hD.r
              have HRSc := Lib.hid hrs
              rw [hrs] at hfr
              have HFRc := Lib.hid hfr
              have HF6 := Lib.hid hD.far
              have HLc := Lib.hid hlc
              have HTRc := Lib.hid htr
              clear hD hrs hlc hfr htr
              rw [HTL.out]
              go_wp2_with fail
              refine (H1.out _).mono ?_
              rintro e w7 ⟨rv, tv, rs, rfl, hD, hrs⟩
              obtain ⟨Ar, cr, hrv, -, -, -, -⟩ := hD.nodes
              obtain ⟨Br, dr, htv, -, -, -, -⟩ := hD.tops_row
              have hlen : rs.length = na := by have := congrArg List.length hrs; rw [List.length_map] at this; exact this.trans HNa.out
              rw [hlen] at hrv
              rw [HMa.out] at htv
              subst hrv htv
              have HF7 := Lib.hid hD.far
              clear hD hrs hlen
              obtain ⟨G, hG⟩ : ∃ G, (Value.slice Ta ma tca).ownBlock.toList = G := ⟨_, rfl⟩
              have HTOPS : Hid (w7.ownsRow w3.heap.size 3 1 (.slice Ta ma tca) ta.length (ints ta)) := Lib.hid (by
                have h := (HDa.out.kin.each _ (List.mem_cons_self ..))
                rw [HTA.out] at h
                rw [HTA.out]
                exact MM.own_far (MM.own_far (MM.own_far h HF5.out (by simp)) HF6.out (by simp)) HF7.out (by simp))
              have HOLD : Hid (Old w7 w4.heap.size G ∧ ∀ g ∈ G, w3.heap.size ≤ g) := Lib.hid (by
                have h := HDa.out.kin.each _ (List.mem_cons_self ..)
                rw [HTA.out] at h
                refine ⟨fun g hg => ?_, fun g hg => ?_⟩
                · rw [← hG] at hg
                  have hg : (Value.slice Ta ma tca).ownBlock = some g := by simpa using hg
                  refine ⟨(MM.own_lt h g hg).1, ?_⟩
                  rcases HTOPS.out.2 with ⟨e, _⟩ | ⟨g', cap, cur, e, _, hh, _⟩
                  · rw [e] at hg; cases hg
                  · rw [e] at hg
                    injection hg with hg
                    rw [← hg]
                    exact ⟨cur, _, hh⟩
                · rw [← hG] at hg
                  exact (MM.own_lt h g (by simpa using hg)).2)
              have HG7 : Hid (∀ g ∈ G, g < w7.heap.size) := Lib.hid (fun g hg => by
                have h1 := (HOLD.out.1 g hg).1
                have h2 := HF5.out.size
                have h3 := HF6.out.size
                have h4 := HF7.out.size
                omega)
              have HDa7 : Hid (DoneR w3.heap.size w7 (.slice Fa rsa.length fca) (.slice Ta ta.length tca) rsa ta) := Lib.hid (((HDa.out.to HF5.out).to HF6.out).to HF7.out)
              have HGE := Lib.hid hG
              have HONE := Lib.hid (fm_ones rsa (fun x hx => by
                obtain ⟨LA, lc, e, _⟩ := HDa.out.lists x hx
                obtain ⟨PA, pc, e2, _⟩ := (HDa.out.nam x hx).form
                exact ⟨⟨_, _, _, e2⟩, ⟨_, _, _, e⟩⟩))
              have HSRC : Hid (MM.Src w7 [] Fa (fmC rsa)) := Lib.hid (by
                obtain ⟨A, c, e, k0, k1, k2, k3, hh⟩ := MO.form HDa7.out.row
                injection e with e1 e2 e3
                subst e1
                exact k3 [] (fun b _ => by simp))
              have HFCL : Hid ((fmC rsa).length = ka * 8) := Lib.hid (by rw [fmC_len, HLa.out])
              clear hG
              go_wp2_with (at_builtin; refine MO.wpList_append _ rfl (.tmp 130) (.tmp 131) 23 rfl w7.heap.size 32 _ 8 104 forms_slice form_info rfl (by omega) (.slice (some ⟨w7.heap.size, 0, none⟩) 0 0) 0 [] rfl (World.ownsRow_made w7 #[] 0 (Nat.le_refl _) (Nat.zero_le _) (by simp)) Fa ka fca (fmC rsa) rfl HFCL.out (fun e => ⟨hfza e, (by have := hfza e; omega)⟩) [] (HSRC.out.far ((MM.Far.refl [] w7).alloc _) (by simp)) HONE.out (by simp only [maxLen]; omega) (by omega) (by simp) ?_; intro v8 w8 hv8 hg8 hat8; have HV8 := Lib.hid hv8; have HG8 := Lib.hid hg8; have HAT8 := Lib.hid hat8; obtain ⟨A8, c8, rfl, -⟩ := MO.form hv8; clear hv8 hg8 hat8)
              have HW0 : Hid (Wt w7 w8 G (.slice A8 ka c8) rsa) := Lib.hid (by
                have hv := HV8.out
                rw [Nat.zero_add, List.nil_append] at hv
                have hF8 : MM.Far [] w7 w8 := ((MM.Far.refl [] w7).alloc _).trans (MM.Far.of_grown (S := [w7.heap.size]) HG8.out (fun b hb _ => by simp [Value.ownBlock] at hb; simp [hb])) (fun b hb hl => by have h2 : b = w7.heap.size := (by simpa using hb); omega)
                have hvl : ∀ b ∈ G ++ (Value.slice A8 ka c8).ownBlock.toList, b ∈ G ∨ w7.heap.size ≤ b := fun b hb => by
                  rcases List.mem_append.1 hb with hb | hb
                  · exact .inl hb
                  · exact .inr (MM.own_lt hv b (by simpa using hb)).2
                refine ⟨by rw [HLa.out]; exact hv, fun x hx => ⟨?_, ?_⟩, hF8⟩
                · exact ((sl_off (HDa7.out.nam x hx) HOLD.out.1).more (fun b hb => (hvl b hb).imp (fun h => List.mem_append_left _ h) id)).far hF8 (by simp)
                · have hk : (x.2.2, x.1.l) ∈ kinsF rsa := (by unfold kinsF; exact List.mem_map.2 ⟨x, hx, rfl⟩)
                  have hown := HDa7.out.kin.each (x.2.2, x.1.l) (List.mem_cons_of_mem _ hk)
                  have hap := (List.pairwise_cons.1 HDa7.out.kin.apart).1 _ hk
                  refine ((Sl.own (Z := G) hown (fun b hb hm => ?_)).more hvl).far hF8 (by simp)
                  rw [← HGE.out] at hm
                  have hm : (Value.slice Ta ma tca).ownBlock = some b := (by simpa using hm)
                  rw [HTA.out] at hap
                  exact hap b hm hb)
              clear HV8 HG8 HAT8 HSRC HONE HFCL
              go_loopw [30, 135] (fun s30 s135 wr => ∃ (k : Nat) (A : Option Addr) (c : Nat), k ≤ kb ∧ s30 = .slice A (ka + k) c ∧ s135 = .int .i64 (k : Int) ∧ Hid (∃ rs, Wt w7 wr G (.slice A (ka + k) c) rs ∧ rs.length = ka + k ∧ rs.map (·.1) = fa ++ (fb.take k).map (shF (s.size + 1) na ka))) (fun _ s135 _ => kb - (intOf s135).toNat)
              case atStart => exact ⟨0, A8, c8, by omega, rfl, rfl, Lib.hid ⟨rsa, HW0.out, by rw [HLa.out, Nat.add_zero], by rw [List.take_zero, List.map_nil, List.append_nil]; exact HRSa.out⟩⟩
              case round =>
                obtain ⟨k, A, c, hk, rfl, rfl, hI⟩ := hrel
                obtain ⟨rs, hW, hl, hrs⟩ := hI.out
                obtain ⟨wo, rfl⟩ : ∃ wo, wo = wr := ⟨_, rfl⟩
                clear hI HW0
                by_cases hlt : k < kb
                · have hk2 : k < fb.length := by rw [HKb.out]; exact hlt
                  obtain ⟨b1, o1, P1, p1, L1, e1, rfl, hb1, a0, a1, a2, a3, a4, a5, a6, a7, s1, i1⟩ := (((HFRb.out.far HF6.out).far HF7.out).far hW.far) k hk2
                  have hsp : Sl wo (G ++ (Value.slice A (ka + k) c).ownBlock.toList) (.slice P1 (fb[k]).p.length p1) (strs (fb[k]).p) := by
                    have s7 : Sl w7 [] (.slice P1 (fb[k]).p.length p1) (strs (fb[k]).p) := by
                      obtain ⟨b2, o2, P2, p2, L2, e2, hA2, hb2, _, _, _, _, _, d5, _, _, s2, _⟩ := ((HFRb.out.far HF6.out).far HF7.out) k hk2
                      injection hA2 with hA2
                      injection hA2 with hA3 hA4
                      subst hA3
                      subst hA4
                      have d5' := far_cell hW.far d5
                      rw [a5] at d5'
                      injection d5' with d5'
                      injection d5' with d6 _ d7
                      subst d6
                      subst d7
                      exact s2
                    refine ((sl_off s7 HOLD.out.1).more (fun b hb => ?_)).far hW.far (by simp)
                    rcases List.mem_append.1 hb with hb | hb
                    · exact .inl (List.mem_append_left _ hb)
                    · exact .inr (MM.own_lt hW.row b (by simpa using hb)).2
                  have hat := HFBo.out.at_ _ (List.getElem_mem hk2)
                  have hquo := HFBo.out.quo _ (List.getElem_mem hk2)
                  rw [HNb.out] at hquo
                  have hmade := HFBo.out.made k hk2
                  have htk : fb.take (k + 1) = fb.take k ++ [fb[k]] := by rw [List.take_succ_eq_append_getElem hk2]
                  have hll : ∀ v ∈ (fb[k]).l, v < kb := fun v hv => by have := (hmade.2 v hv).1; simp at this; omega
                  have hnd : (fb[k]).l.length ≤ 12800 := by
                    have h1 : (fb[k]).l.Nodup := List.nodup_iff_count.2 fun a => by
                      by_cases ha : a ∈ (fb[k]).l
                      · have h5 : (fb[k]).l.count a ≤ EX.cnt fb a := by
                          unfold EX.cnt
                          have e : fb = fb.take k ++ (fb[k] :: fb.drop (k + 1)) := by rw [← List.drop_eq_getElem_cons hk2, List.take_append_drop]
                          conv => rhs; rw [e]
                          rw [List.flatMap_append, List.flatMap_cons, List.count_append, List.count_append]
                          omega
                        have h6 := HFBo.out.one a
                        split at h6 <;> omega
                      · rw [List.count_eq_zero_of_not_mem ha]; omega
                    have := nodup_le2 kb _ h1 hll
                    omega
                  generalize fb[k] = x at *
                  obtain ⟨kd, at_, nn, ss, pp, l⟩ := x
                  simp only at a0 a1 a2 a3 a4 a5 a6 a7 s1 i1 hsp hat hquo hll hnd
                  obtain ⟨q, hq⟩ : ∃ q, l.length = q := ⟨_, rfl⟩
                  obtain ⟨np, hnp⟩ : ∃ np, pp.length = np := ⟨_, rfl⟩
                  rw [hq] at a7 hnd
                  rw [hnp] at a5 hsp
                  obtain ⟨hat0, hat1⟩ := hat
                  have hat2 : at_ ≤ 400 := by omega
                  have HQ := Lib.hid hq
                  have HNP := Lib.hid hnp
                  have HTK := Lib.hid htk
                  have HLL := Lib.hid hll
                  have HSP := Lib.hid hsp
                  have HIL := Lib.hid i1
                  have HL := Lib.hid hl
                  have HRS := Lib.hid hrs
                  have HW := Lib.hid hW
                  have HQU := Lib.hid hquo
                  obtain ⟨bx, hbx⟩ : ∃ bx, wo.heap.size = bx := ⟨_, rfl⟩
                  have HBX := Lib.hid hbx
                  clear hk2 s1 i1 hq hnp htk hll hsp hl hrs hW hquo hmade hbx hat1
                  by_cases h3 : kd = 3
                  · subst h3
                    obtain ⟨hn0, hn1⟩ := HQU.out rfl
                    have hn2 : nn ≤ 8000 := by simp only at hn1; omega
                    simp only at hn0
                    clear hn1
                    have HB0 : Hid (MM.Row (wo.alloc (.cells #[.int .u8 3, .int .i64 (at_ + ((s.size : Int) + 1)), .int .i64 (nn + (na : Int)), .int .i64 0, .string ss, .slice P1 np p1, .int .u64 0, .slice L1 q e1] 32)) bx 32 [.int .u8 3, .int .i64 (at_ + ((s.size : Int) + 1)), .int .i64 (nn + (na : Int)), .int .i64 0, .string ss, .slice P1 np p1, .int .u64 0, .slice L1 q e1]) := Lib.hid (HBX.out ▸ MM.Row.new wo 32 [.int .u8 3, .int .i64 (at_ + ((s.size : Int) + 1)), .int .i64 (nn + (na : Int)), .int .i64 0, .string ss, .slice P1 np p1, .int .u64 0, .slice L1 q e1])
                    have HXE : Hid (shF (s.size + 1) na ka ⟨3, at_, nn, ss, pp, l⟩ = ⟨3, at_ + ((s.size : Int) + 1), (nn + (na : Int)), ss, pp, l.map (· + ka)⟩) := Lib.hid (by
                      unfold shF
                      simp only [Fm.mk.injEq, true_and, and_true]
                      exact ⟨by push_cast; omega, by rw [if_pos trivial]⟩)
                    go_wp2
                    rw [HBX.out]
                    have HJ0 : Hid ((wo.alloc (.cells #[.int .u8 3, .int .i64 (at_ + ((s.size : Int) + 1)), .int .i64 (nn + (na : Int)), .int .i64 0, .string ss, .slice P1 np p1, .int .u64 0, .slice L1 q e1] 32)).ownsRow wo.heap.size 3 1 (.slice none 0 0) ((l.take 0).map (· + ka)).length (ints ((l.take 0).map (· + ka))) ∧ MM.Row (wo.alloc (.cells #[.int .u8 3, .int .i64 (at_ + ((s.size : Int) + 1)), .int .i64 (nn + (na : Int)), .int .i64 0, .string ss, .slice P1 np p1, .int .u64 0, .slice L1 q e1] 32)) bx 32 [.int .u8 3, .int .i64 (at_ + ((s.size : Int) + 1)), .int .i64 (nn + (na : Int)), .int .i64 0, .string ss, .slice P1 np p1, .int .u64 0, .slice L1 q e1] ∧ MM.Far [] wo (wo.alloc (.cells #[.int .u8 3, .int .i64 (at_ + ((s.size : Int) + 1)), .int .i64 (nn + (na : Int)), .int .i64 0, .string ss, .slice P1 np p1, .int .u64 0, .slice L1 q e1] 32))) := Lib.hid ⟨MO.none_ _ _ _ _, HB0.out, (MM.Far.refl [] wo).alloc _⟩
                    generalize wo.alloc (.cells #[.int .u8 3, .int .i64 (at_ + ((s.size : Int) + 1)), .int .i64 (nn + (na : Int)), .int .i64 0, .string ss, .slice P1 np p1, .int .u64 0, .slice L1 q e1] 32) = wb at *
                    clear HB0
                    go_loopw [33, 158] (fun s33 s158 wz => ∃ (j : Nat) (OA : Option Addr) (oc : Nat), j ≤ q ∧ s33 = .slice OA j oc ∧ s158 = .int .i64 (j : Int) ∧ Hid (wz.ownsRow wo.heap.size 3 1 (.slice OA j oc) ((l.take j).map (· + ka)).length (ints ((l.take j).map (· + ka))) ∧ MM.Row wz bx 32 [.int .u8 3, .int .i64 (at_ + ((s.size : Int) + 1)), .int .i64 (nn + (na : Int)), .int .i64 0, .string ss, .slice P1 np p1, .int .u64 0, .slice L1 q e1] ∧ MM.Far [] wo wz)) (fun _ s158 _ => q - (intOf s158).toNat)
                    case atStart => exact ⟨0, none, 0, by omega, rfl, rfl, HJ0⟩
                    case round =>
                      obtain ⟨j, OA, oc, hj, rfl, rfl, hJ⟩ := hrel
                      clear HJ0
                      obtain ⟨wz, rfl⟩ : ∃ wz, wz = wr := ⟨_, rfl⟩
                      by_cases hlt2 : j < q
                      · have hj2 : j < l.length := by rw [HQ.out]; exact hlt2
                        obtain ⟨gl, ol, hLA, hgl, hcl⟩ := HIL.out j hj2
                        subst hLA
                        replace hcl := far_cell hJ.out.2.2 hcl
                        have hb := HLL.out _ (List.getElem_mem hj2)
                        have htj : l.take (j + 1) = l.take j ++ [l[j]] := by rw [List.take_succ_eq_append_getElem hj2]
                        have hlj : ((l.take j).map (· + ka)).length = j := by rw [List.length_map, List.length_take, HQ.out]; omega
                        generalize l[j] = pv at *
                        have HTJ := Lib.hid htj
                        have HLJ := Lib.hid hlj
                        have HOW := Lib.hid hJ.out.1
                        have HJ2 := Lib.hid hJ.out.2
                        have hpv : pv ≤ 12800 := by omega
                        have hz : ((pv : Int) + (ka : Int)) = ((pv + ka : Nat) : Int) := by omega
                        have HZ := Lib.hid hz
                        clear htj hlj hz hj2 hb hJ
                        go_wp2_with (first
                          | (at_builtin; refine place_push (n := pv + ka) HZ.out HOW.out HJ2.out.2.size (by rw [HLJ.out]; omega) rfl (.tmp 162) (.tmp 167) rfl rfl rfl ?_; intro tA tcx w5x ho5 hf5 ha5; have HO5 := Lib.hid ho5; have HF5x := Lib.hid hf5; clear ho5 hf5 ha5))
                        go_roundw
                        case rel =>
                          have hmin : min j l.length = j := by have := HQ.out; omega
                          rw [hmin]
                          refine ⟨j + 1, tA, tcx, by omega, rfl, by go_num, Lib.hid ⟨?_, ?_, ?_⟩⟩
                          · rw [HTJ.out, List.map_append]
                            have h := HO5.out
                            rw [HLJ.out] at h
                            have e : (List.map (· + ka) (l.take j) ++ List.map (· + ka) [pv]).length = j + 1 := by rw [List.length_append, HLJ.out]; rfl
                            rw [e]
                            have e2 : ints (List.map (· + ka) (l.take j) ++ List.map (· + ka) [pv]) = ints ((l.take j).map (· + ka)) ++ [.int .i64 ((pv + ka : Nat) : Int)] := by unfold ints; rw [List.map_append]; rfl
                            rw [e2]
                            exact h
                          · exact HJ2.out.1.far HF5x.out (fun hm => MM.own_row_ne HOW.out HJ2.out.1 (by decide) (by simpa using hm))
                          · exact HJ2.out.2.trans HF5x.out (fun b hb hl => by have := (MM.own_lt HOW.out b (by simpa using hb)).2; omega)
                        case measure => simp [intOf]; omega
                      · obtain rfl : j = q := by omega
                        have hall : l.take j = l := List.take_of_length_le (by rw [HQ.out]; exact Nat.le_refl _)
                        have hJ1 := hJ.out
                        rw [hall] at hJ1
                        obtain ⟨ho, hB2, hF2⟩ := hJ1
                        have z0 := hB2.at (i := 0) rfl
                        have z1 := hB2.at (i := 1) rfl
                        have z2 := hB2.at (i := 2) rfl
                        have z3 := hB2.at (i := 3) rfl
                        have z4 := hB2.at (i := 4) rfl
                        have z5 := hB2.at (i := 5) rfl
                        have z6 := hB2.at (i := 6) rfl
                        have z7 := hB2.at (i := 7) rfl
                        have g7 := hB2.frozen 7
                        have hml : (l.map (· + ka)).length = j := by rw [List.length_map, HQ.out]
                        have hFb : MM.Far [] wo (wz.setCell ⟨bx, 7, none⟩ (.slice OA j oc)) := hF2.setCell (fun hlt => by have := HBX.out; simp only at hlt; omega) _
                        have hFc : MM.Far [bx] wz (wz.setCell ⟨bx, 7, none⟩ (.slice OA j oc)) := cell_far wz bx 7 _
                        have hoc := MM.own_far ho hFc (fun b hb hm => by have e : b = bx := (by simpa using hm); subst e; exact MM.own_row_ne ho hB2 (by decide) hb)
                        have hWs := HW.out.to hFb
                        have HWS := Lib.hid hWs
                        have HRW := Lib.hid hWs.row
                        have HSO : Hid (Sl (wz.setCell ⟨bx, 7, none⟩ (.slice OA j oc)) (G ++ (Value.slice A (ka + k) c).ownBlock.toList) (.slice OA j oc) (ints (l.map (· + ka)))) := Lib.hid (Sl.own hoc (fun b hb hm => by
                          rcases List.mem_append.1 hm with hm | hm
                          · have h1 := HG7.out b hm
                            have h2 := (MM.own_lt hoc b hb).2
                            have h3 := HW.out.far.size
                            omega
                          · exact MM.own_own_ne hoc hWs.row (by decide) b hb (by simpa using hm)))
                        have HSP2 := Lib.hid (HSP.out.far hFb (by simp))
                        have hbs : w7.heap.size ≤ (wz.setCell ⟨bx, 7, none⟩ (.slice OA j oc)).heap.size := Nat.le_trans HW.out.far.size hFb.size
                        have HBS := Lib.hid hbs
                        clear hall ho hB2 hF2 hJ hFb hFc hoc hWs hbs hml
                        go_wp2_with (first
                          | (at_builtin; refine form_push ⟨3, at_ + ((s.size : Int) + 1), (nn + (na : Int)), ss, pp, l.map (· + ka)⟩ P1 OA np p1 j oc (pz := wz.heap.size) (by simp [World.setCell]) HRW.out HBS.out (by rw [HL.out]; omega) rfl (.tmp 172) (.tmp 174) rfl rfl rfl ?_; intro tA tcx w5x ho5 hf5 ha5; have HN := Lib.hid (Wt.push ⟨3, at_ + ((s.size : Int) + 1), (nn + (na : Int)), ss, pp, l.map (· + ka)⟩ (.slice P1 np p1) (.slice OA j oc) HWS.out HG7.out HSP2.out HSO.out ho5 hf5 ha5); clear ho5 hf5 ha5))
                        go_roundw
                        case rel =>
                          rw [HL.out]
                          have h := HN.out
                          rw [HL.out] at h
                          refine ⟨k + 1, tA, tcx, by omega, rfl, by go_num, Lib.hid ⟨_, h, ?_, ?_⟩⟩
                          · rw [List.length_append, HL.out]; rfl
                          · rw [List.map_append, HRS.out, HTK.out, List.map_append, ← List.append_assoc]
                            simp only [List.map_cons, List.map_nil, HXE.out]
                        case measure => simp [intOf]; omega
                  · have h3a : (kd == 3) = false := by simp [h3]
                    have HB0 : Hid (MM.Row (wo.alloc (.cells #[.int .u8 kd, .int .i64 (at_ + ((s.size : Int) + 1)), .int .i64 nn, .int .i64 0, .string ss, .slice P1 np p1, .int .u64 0, .slice L1 q e1] 32)) bx 32 [.int .u8 kd, .int .i64 (at_ + ((s.size : Int) + 1)), .int .i64 nn, .int .i64 0, .string ss, .slice P1 np p1, .int .u64 0, .slice L1 q e1]) := Lib.hid (HBX.out ▸ MM.Row.new wo 32 [.int .u8 kd, .int .i64 (at_ + ((s.size : Int) + 1)), .int .i64 nn, .int .i64 0, .string ss, .slice P1 np p1, .int .u64 0, .slice L1 q e1])
                    have HXE : Hid (shF (s.size + 1) na ka ⟨kd, at_, nn, ss, pp, l⟩ = ⟨kd, at_ + ((s.size : Int) + 1), nn, ss, pp, l.map (· + ka)⟩) := Lib.hid (by
                      unfold shF
                      simp only [Fm.mk.injEq, true_and, and_true]
                      exact ⟨by push_cast; omega, by rw [if_neg h3]⟩)
                    go_wp2
                    rw [HBX.out]
                    have HJ0 : Hid ((wo.alloc (.cells #[.int .u8 kd, .int .i64 (at_ + ((s.size : Int) + 1)), .int .i64 nn, .int .i64 0, .string ss, .slice P1 np p1, .int .u64 0, .slice L1 q e1] 32)).ownsRow wo.heap.size 3 1 (.slice none 0 0) ((l.take 0).map (· + ka)).length (ints ((l.take 0).map (· + ka))) ∧ MM.Row (wo.alloc (.cells #[.int .u8 kd, .int .i64 (at_ + ((s.size : Int) + 1)), .int .i64 nn, .int .i64 0, .string ss, .slice P1 np p1, .int .u64 0, .slice L1 q e1] 32)) bx 32 [.int .u8 kd, .int .i64 (at_ + ((s.size : Int) + 1)), .int .i64 nn, .int .i64 0, .string ss, .slice P1 np p1, .int .u64 0, .slice L1 q e1] ∧ MM.Far [] wo (wo.alloc (.cells #[.int .u8 kd, .int .i64 (at_ + ((s.size : Int) + 1)), .int .i64 nn, .int .i64 0, .string ss, .slice P1 np p1, .int .u64 0, .slice L1 q e1] 32))) := Lib.hid ⟨MO.none_ _ _ _ _, HB0.out, (MM.Far.refl [] wo).alloc _⟩
                    generalize wo.alloc (.cells #[.int .u8 kd, .int .i64 (at_ + ((s.size : Int) + 1)), .int .i64 nn, .int .i64 0, .string ss, .slice P1 np p1, .int .u64 0, .slice L1 q e1] 32) = wb at *
                    clear HB0
                    go_loopw [33, 158] (fun s33 s158 wz => ∃ (j : Nat) (OA : Option Addr) (oc : Nat), j ≤ q ∧ s33 = .slice OA j oc ∧ s158 = .int .i64 (j : Int) ∧ Hid (wz.ownsRow wo.heap.size 3 1 (.slice OA j oc) ((l.take j).map (· + ka)).length (ints ((l.take j).map (· + ka))) ∧ MM.Row wz bx 32 [.int .u8 kd, .int .i64 (at_ + ((s.size : Int) + 1)), .int .i64 nn, .int .i64 0, .string ss, .slice P1 np p1, .int .u64 0, .slice L1 q e1] ∧ MM.Far [] wo wz)) (fun _ s158 _ => q - (intOf s158).toNat)
                    case atStart => exact ⟨0, none, 0, by omega, rfl, rfl, HJ0⟩
                    case round =>
                      obtain ⟨j, OA, oc, hj, rfl, rfl, hJ⟩ := hrel
                      clear HJ0
                      obtain ⟨wz, rfl⟩ : ∃ wz, wz = wr := ⟨_, rfl⟩
                      by_cases hlt2 : j < q
                      · have hj2 : j < l.length := by rw [HQ.out]; exact hlt2
                        obtain ⟨gl, ol, hLA, hgl, hcl⟩ := HIL.out j hj2
                        subst hLA
                        replace hcl := far_cell hJ.out.2.2 hcl
                        have hb := HLL.out _ (List.getElem_mem hj2)
                        have htj : l.take (j + 1) = l.take j ++ [l[j]] := by rw [List.take_succ_eq_append_getElem hj2]
                        have hlj : ((l.take j).map (· + ka)).length = j := by rw [List.length_map, List.length_take, HQ.out]; omega
                        generalize l[j] = pv at *
                        have HTJ := Lib.hid htj
                        have HLJ := Lib.hid hlj
                        have HOW := Lib.hid hJ.out.1
                        have HJ2 := Lib.hid hJ.out.2
                        have hpv : pv ≤ 12800 := by omega
                        have hz : ((pv : Int) + (ka : Int)) = ((pv + ka : Nat) : Int) := by omega
                        have HZ := Lib.hid hz
                        clear htj hlj hz hj2 hb hJ
                        go_wp2_with (first
                          | (at_builtin; refine place_push (n := pv + ka) HZ.out HOW.out HJ2.out.2.size (by rw [HLJ.out]; omega) rfl (.tmp 162) (.tmp 167) rfl rfl rfl ?_; intro tA tcx w5x ho5 hf5 ha5; have HO5 := Lib.hid ho5; have HF5x := Lib.hid hf5; clear ho5 hf5 ha5))
                        go_roundw
                        case rel =>
                          have hmin : min j l.length = j := by have := HQ.out; omega
                          rw [hmin]
                          refine ⟨j + 1, tA, tcx, by omega, rfl, by go_num, Lib.hid ⟨?_, ?_, ?_⟩⟩
                          · rw [HTJ.out, List.map_append]
                            have h := HO5.out
                            rw [HLJ.out] at h
                            have e : (List.map (· + ka) (l.take j) ++ List.map (· + ka) [pv]).length = j + 1 := by rw [List.length_append, HLJ.out]; rfl
                            rw [e]
                            have e2 : ints (List.map (· + ka) (l.take j) ++ List.map (· + ka) [pv]) = ints ((l.take j).map (· + ka)) ++ [.int .i64 ((pv + ka : Nat) : Int)] := by unfold ints; rw [List.map_append]; rfl
                            rw [e2]
                            exact h
                          · exact HJ2.out.1.far HF5x.out (fun hm => MM.own_row_ne HOW.out HJ2.out.1 (by decide) (by simpa using hm))
                          · exact HJ2.out.2.trans HF5x.out (fun b hb hl => by have := (MM.own_lt HOW.out b (by simpa using hb)).2; omega)
                        case measure => simp [intOf]; omega
                      · obtain rfl : j = q := by omega
                        have hall : l.take j = l := List.take_of_length_le (by rw [HQ.out]; exact Nat.le_refl _)
                        have hJ1 := hJ.out
                        rw [hall] at hJ1
                        obtain ⟨ho, hB2, hF2⟩ := hJ1
                        have z0 := hB2.at (i := 0) rfl
                        have z1 := hB2.at (i := 1) rfl
                        have z2 := hB2.at (i := 2) rfl
                        have z3 := hB2.at (i := 3) rfl
                        have z4 := hB2.at (i := 4) rfl
                        have z5 := hB2.at (i := 5) rfl
                        have z6 := hB2.at (i := 6) rfl
                        have z7 := hB2.at (i := 7) rfl
                        have g7 := hB2.frozen 7
                        have hml : (l.map (· + ka)).length = j := by rw [List.length_map, HQ.out]
                        have hFb : MM.Far [] wo (wz.setCell ⟨bx, 7, none⟩ (.slice OA j oc)) := hF2.setCell (fun hlt => by have := HBX.out; simp only at hlt; omega) _
                        have hFc : MM.Far [bx] wz (wz.setCell ⟨bx, 7, none⟩ (.slice OA j oc)) := cell_far wz bx 7 _
                        have hoc := MM.own_far ho hFc (fun b hb hm => by have e : b = bx := (by simpa using hm); subst e; exact MM.own_row_ne ho hB2 (by decide) hb)
                        have hWs := HW.out.to hFb
                        have HWS := Lib.hid hWs
                        have HRW := Lib.hid hWs.row
                        have HSO : Hid (Sl (wz.setCell ⟨bx, 7, none⟩ (.slice OA j oc)) (G ++ (Value.slice A (ka + k) c).ownBlock.toList) (.slice OA j oc) (ints (l.map (· + ka)))) := Lib.hid (Sl.own hoc (fun b hb hm => by
                          rcases List.mem_append.1 hm with hm | hm
                          · have h1 := HG7.out b hm
                            have h2 := (MM.own_lt hoc b hb).2
                            have h3 := HW.out.far.size
                            omega
                          · exact MM.own_own_ne hoc hWs.row (by decide) b hb (by simpa using hm)))
                        have HSP2 := Lib.hid (HSP.out.far hFb (by simp))
                        have hbs : w7.heap.size ≤ (wz.setCell ⟨bx, 7, none⟩ (.slice OA j oc)).heap.size := Nat.le_trans HW.out.far.size hFb.size
                        have HBS := Lib.hid hbs
                        clear hall ho hB2 hF2 hJ hFb hFc hoc hWs hbs hml
                        go_wp2_with (first
                          | (at_builtin; refine form_push ⟨kd, at_ + ((s.size : Int) + 1), nn, ss, pp, l.map (· + ka)⟩ P1 OA np p1 j oc (pz := wz.heap.size) (by simp [World.setCell]) HRW.out HBS.out (by rw [HL.out]; omega) rfl (.tmp 172) (.tmp 174) rfl rfl rfl ?_; intro tA tcx w5x ho5 hf5 ha5; have HN := Lib.hid (Wt.push ⟨kd, at_ + ((s.size : Int) + 1), nn, ss, pp, l.map (· + ka)⟩ (.slice P1 np p1) (.slice OA j oc) HWS.out HG7.out HSP2.out HSO.out ho5 hf5 ha5); clear ho5 hf5 ha5))
                        go_roundw
                        case rel =>
                          rw [HL.out]
                          have h := HN.out
                          rw [HL.out] at h
                          refine ⟨k + 1, tA, tcx, by omega, rfl, by go_num, Lib.hid ⟨_, h, ?_, ?_⟩⟩
                          · rw [List.length_append, HL.out]; rfl
                          · rw [List.map_append, HRS.out, HTK.out, List.map_append, ← List.append_assoc]
                            simp only [List.map_cons, List.map_nil, HXE.out]
                        case measure => simp [intOf]; omega
                · obtain rfl : k = kb := by omega
                  have hall : fb.take k = fb := List.take_of_length_le (by rw [HKb.out]; exact Nat.le_refl _)
                  rw [hall, HFC.out] at hrs
                  have HRS := Lib.hid hrs
                  have HW := Lib.hid hW
                  have HL := Lib.hid hl
                  have HP0 : Hid (wo.ownsRow w3.heap.size 3 1 (.slice Ta (ma + 0) tca) (ta ++ (tb.take 0).map (· + ka)).length (ints (ta ++ (tb.take 0).map (· + ka))) ∧ MM.Far G wo wo ∧ ((Value.slice Ta (ma + 0) tca).ownBlock.toList ⊆ G ∨ ∃ b, (Value.slice Ta (ma + 0) tca).ownBlock = some b ∧ wo.heap.size ≤ b)) := Lib.hid ⟨by
                    rw [List.take_zero, List.map_nil, List.append_nil, Nat.add_zero]; exact MM.own_far HTOPS.out hW.far (by simp), MM.Far.refl _ _, .inl (by rw [Nat.add_zero, HGE.out]; exact fun _ h => h)⟩
                  have HOO : Hid (Old wo w4.heap.size G) := Lib.hid (fun g hg => by
                    obtain ⟨h1, cs, fz, h2⟩ := HOLD.out.1 g hg
                    exact ⟨h1, cs, fz, (hW.far.block g (HG7.out g hg) (by simp)).trans h2⟩)
                  have HDBo : Hid (DoneR w4.heap.size wo (.slice Fb rsb.length fcb) (.slice Tb tb.length tcb) rsb tb) := Lib.hid (((HDb.out.to HF6.out).to HF7.out).to hW.far)
                  have HDCo : Hid (DoneR w5.heap.size wo (.slice Fc rsc.length fcc) (.slice Tc tc.length tcc) rsc tc) := Lib.hid ((HDc.out.to HF7.out).to hW.far)
                  have HW3 : Hid (w3.heap.size ≤ wo.heap.size) := Lib.hid (by
                    have h1 := HF4.out.size
                    have h2 := HF5.out.size
                    have h3 := HF6.out.size
                    have h4 := HF7.out.size
                    have h5 := hW.far.size
                    omega)
                  clear hall hrs hW hl
                  go_wp2
                  go_loopw [15, 179] (fun s15 s179 wz => ∃ (j : Nat) (A2 : Option Addr) (c2 : Nat), j ≤ mb ∧ s15 = .slice A2 (ma + j) c2 ∧ s179 = .int .i64 (j : Int) ∧ Hid (wz.ownsRow w3.heap.size 3 1 (.slice A2 (ma + j) c2) (ta ++ (tb.take j).map (· + ka)).length (ints (ta ++ (tb.take j).map (· + ka))) ∧ MM.Far G wo wz ∧ ((Value.slice A2 (ma + j) c2).ownBlock.toList ⊆ G ∨ ∃ b, (Value.slice A2 (ma + j) c2).ownBlock = some b ∧ wo.heap.size ≤ b))) (fun _ s179 _ => mb - (intOf s179).toNat)
                  case atStart => exact ⟨0, Ta, tca, by omega, rfl, rfl, HP0⟩
                  case round =>
                    obtain ⟨j, A2, c2, hj, rfl, rfl, hP⟩ := hrel
                    obtain ⟨wz, rfl⟩ : ∃ wz, wz = wr := ⟨_, rfl⟩
                    clear HP0
                    by_cases hlt2 : j < mb
                    · have hj2 : j < tb.length := by rw [HTB.out]; exact hlt2
                      obtain ⟨Tb', tcb', et, -, -, -, hIL⟩ := (HDBo.out.farG HOO.out hP.out.2.1).tops_row
                      injection et with et1 et2 et3
                      subst et1
                      obtain ⟨gl, ol, hLA, hgl, hcl⟩ := hIL j hj2
                      subst hLA
                      have hb : tb[j] < k := by
                        have h1 := HFBo.out.one tb[j]
                        have h2 : 0 < tb.count tb[j] := List.count_pos_iff.2 (List.getElem_mem hj2)
                        rw [HKb.out] at h1
                        split at h1
                        · assumption
                        · omega
                      have htj : tb.take (j + 1) = tb.take j ++ [tb[j]] := by rw [List.take_succ_eq_append_getElem hj2]
                      have hlj : (ta ++ (tb.take j).map (· + ka)).length = ma + j := by rw [List.length_append, List.length_map, List.length_take, HTA.out, HTB.out]; omega
                      generalize tb[j] = pv at *
                      have HTJ := Lib.hid htj
                      have HLJ := Lib.hid hlj
                      have HOW := Lib.hid hP.out.1
                      have HPF := Lib.hid hP.out.2
                      have hpv : pv ≤ 12800 := by omega
                      have hz : ((pv : Int) + (ka : Int)) = ((pv + ka : Nat) : Int) := by omega
                      have HZ := Lib.hid hz
                      have HWZ : Hid (w3.heap.size ≤ wz.heap.size) := Lib.hid (Nat.le_trans HW3.out hP.out.2.1.size)
                      clear htj hlj hz hj2 hb hP hIL et2 et3
                      go_wp2_with (first
                        | (at_builtin; refine place_push (n := pv + ka) HZ.out HOW.out HWZ.out (by rw [HLJ.out]; omega) rfl (.tmp 183) (.tmp 188) rfl rfl rfl ?_; intro tA tcx w5x ho5 hf5 ha5; have HO5 := Lib.hid ho5; have HF5x := Lib.hid hf5; have HA5 := Lib.hid ha5; clear ho5 hf5 ha5))
                      go_roundw
                      case rel =>
                        have hA5 := HA5.out
                        have hO5 := HO5.out
                        rw [HLJ.out] at hA5 hO5
                        have hlen2 : ta.length + min j tb.length + 1 = ma + j + 1 := by have h1 := HTA.out; have h2 := HTB.out; omega
                        rw [hlen2]
                        refine ⟨j + 1, tA, tcx, by omega, rfl, by go_num, Lib.hid ⟨?_, ?_, ?_⟩⟩
                        · rw [HTJ.out, List.map_append, ← List.append_assoc]
                          have e : (ta ++ List.map (· + ka) (tb.take j) ++ List.map (· + ka) [pv]).length = ma + j + 1 := by rw [List.length_append, HLJ.out]; rfl
                          rw [e]
                          have e2 : ints (ta ++ List.map (· + ka) (tb.take j) ++ List.map (· + ka) [pv]) = ints (ta ++ (tb.take j).map (· + ka)) ++ [.int .i64 ((pv + ka : Nat) : Int)] := by unfold ints; rw [List.map_append]; rfl
                          rw [e2]
                          exact hO5
                        · refine HPF.out.1.trans HF5x.out (fun x hx hl => ?_)
                          rcases HPF.out.2 with h | ⟨z, h, hz⟩
                          · exact h hx
                          · rw [h] at hx
                            have e : x = z := (by simpa using hx)
                            omega
                        · rcases hA5 with h | ⟨z, h, hz⟩
                          · rcases HPF.out.2 with h2 | ⟨z2, h2, hz2⟩
                            · left
                              show (Value.slice tA (ma + j + 1) tcx).ownBlock.toList ⊆ G
                              rw [h]
                              exact h2
                            · exact .inr ⟨z2, h.trans h2, hz2⟩
                          · exact .inr ⟨z, h, Nat.le_trans HPF.out.1.size hz⟩
                      case measure => simp [intOf]; omega
                    · obtain rfl : j = mb := by omega
                      have hall2 : tb.take j = tb := List.take_of_length_le (by rw [HTB.out]; exact Nat.le_refl _)
                      have hp1 := hP.out.1
                      rw [hall2, HTC.out] at hp1
                      obtain ⟨A2', c2', e2, hpI⟩ := sl_row (Sl.own (Z := []) hp1 (fun _ _ => by simp))
                      injection e2 with e21 e22 e23
                      subst e21
                      have HDCz := HDCo.out.farG (fun g hg => ⟨Nat.lt_of_lt_of_le (HOO.out g hg).1 HF5.out.size, (HOO.out g hg).2⟩) hP.out.2.1
                      obtain ⟨Fc', fcc', e3, -, -, -, hcF⟩ := HDCz.rows
                      injection e3 with e31 e32 e33
                      subst e31
                      rw [HRSc.out] at hcF
                      obtain ⟨Tc', tcc', e4, -, -, -, hcT⟩ := HDCz.tops_row
                      injection e4 with e41 e42 e43
                      subst e41
                      obtain ⟨Aw, cw, e5, -, -, -, hwF⟩ := HW.out.rows HG7.out hP.out.2.1
                      injection e5 with e51 e52 e53
                      subst e51
                      rw [HRS.out] at hwF
                      have HSame := Lib.hid (fun c1 c2 => fsame_yes fc (ka + k) HKc.out (by omega) (fun x hx => by
                        rw [← HFC.out] at hx
                        rcases List.mem_append.1 hx with hx | hx
                        · have := forms_small HFAo.out x hx
                          have := HKa.out
                          omega
                        · obtain ⟨y, hy, rfl⟩ := List.mem_map.1 hx
                          have := forms_small HFBo.out y hy
                          have := HKb.out
                          simp only [shF, List.length_map]
                          omega) Fc A c1 c2 wz hcF hwF)
                      have HInts := Lib.hid (fun (w6 : World) (f : MM.Far [] wz w6) c1 c2 => ints_call (c1 := c1) (c2 := c2) HTL.out (by omega) (hcT.far f) (hpI.far f))
                      have HFZ := Lib.hid hP.out.2.1
                      clear hP hp1 hpI hcF hcT hwF HDCz hall2 e22 e23 e32 e33 e42 e43 e52 e53
                      go_wp2_with (first
                        | (go_at_call 12; ((with_reducible refine (HSame.out _ _).mono ?_); rintro e w8x ⟨rfl, hF8x⟩; have HF8x := Lib.hid hF8x; clear hF8x))
                        | (go_at_call 13; ((with_reducible refine (HInts.out _ HF8x.out _ _).mono ?_); rintro e w9x ⟨rfl, hF9x⟩; have HF9x := Lib.hid hF9x; clear hF9x)))
                      go_ret
                      refine ⟨rfl, ?_⟩
                      have f7 : MM.Far [] w w7 := (((((HF1.out.trans HF2.out (by simp)).trans HF3.out (by simp)).trans HF4.out (by simp)).trans HF5.out (by simp)).trans HF6.out (by simp)).trans HF7.out (by simp)
                      have f8 : MM.Far [] w wo := f7.trans HW.out.far (by simp)
                      have f9 : MM.Far G w wz := (f8.mono (S' := G) (by simp)).trans HFZ.out (fun _ h _ => h)
                      have hw3 : w.heap.size ≤ w3.heap.size := Nat.le_trans HF1.out.size (Nat.le_trans HF2.out.size HF3.out.size)
                      exact ((f9.trans HF8x.out (by simp)).trans HF9x.out (by simp)).below (Nat.le_refl _) (fun g hg => Nat.le_trans hw3 (HOLD.out.2 g hg))
end EW
end Go.Proofs.Ytpbfgfadickgbaa
