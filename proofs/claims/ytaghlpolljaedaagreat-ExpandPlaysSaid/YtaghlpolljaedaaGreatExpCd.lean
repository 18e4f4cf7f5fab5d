/-
  Several texts in one: ExpC22, ExpC23, ExpC24. Each one's own head tells its conditions.
-/
import Derived.Test.YtaghlpolljaedaaGreatExpCc
import Derived.Test.YtaghlpolljaedaaGreatExpPure
/-
  Contract of the code's planList: what becomes of a list. Conditions: sizes; the row of data may be.
-/
namespace Go.Proofs.YtaghlpolljaedaaGreat
open Go.RowKit
namespace EW
open LX SX RW6 EX
open RX (Nd)
section
variable {w0 w : World} {Z : List Nat} {q mb : Nat} {DA : Option Addr} {n c : Nat} {ns : List Nd}
set_option maxRecDepth 20000 in
set_option maxHeartbeats 4000000 in
theorem planList_nil (hz : ∀ b ∈ Z, b < w.heap.size) (kd at_ nn : Int) (s : ByteArray) (LA : Option Addr) (lc : Nat) (top : Bool) :
    Calls Tryz.prog 66 #[ptr q, .agg #[.int .u8 kd, num at_, num nn, .string s, .slice LA 0 lc], .bool top] w (PlanQ w Z q (.bad at_)) := by
  obtain ⟨W, hW⟩ : ∃ W, ((w.alloc (.cells #[.int .u8 kd, num at_, num nn, .string s, .slice LA 0 lc] 53)).alloc zP) = W := ⟨_, rfl⟩
  obtain ⟨k, hk⟩ : ∃ k, w.heap.size = k := ⟨_, rfl⟩
  have F0 : MM.Far [] w W := by rw [← hW]; exact ((MM.Far.refl [] w).alloc _).alloc _
  have BL : MM.Row W k 53 [.int .u8 kd, num at_, num nn, .string s, .slice LA 0 lc] := by rw [← hW]; exact (row_new 53 [.int .u8 kd, num at_, num nn, .string s, .slice LA 0 lc] hk).alloc _
  have HB : Hid (PlBox W (k + 1)) := Lib.hid (by rw [← hW]; exact PlBox.new (by simp only [sz_alloc, hk]))
  have HZ : Hid (∀ x ∈ (k + 1) :: Z, x < W.heap.size) := Lib.hid (by rw [← hW]; exact z_cons (by simp only [sz_alloc, hk]) (z_alloc hz))
  have HF := Lib.hid F0
  have HK := Lib.hid hk
  have MZ : ∀ x ∈ (k + 1) :: Z, x ∈ Z ∨ w.heap.size ≤ x := fun x hx => (List.mem_cons.1 hx).elim (fun e => .inr (by omega)) .inl
  have b1 := BL.at (i := 1) rfl
  have b4 := BL.at (i := 4) rfl
  clear hz MZ F0 BL
  subst hW; subst hk
  unfold zP num at *
  unfold ptr at *
  go_enter Tryz.func66, Tryz.ntmps66
  go_wp2_with (first
    | (go_at_call 55; refine (wrong_any (Z := (w.heap.size + 1) :: Z) _ q at_).mono ?_; rintro e wp ⟨v, rfl, hI, hFp⟩; obtain ⟨bad, kind, at_, nn, s, A, m, c, A2, m2, c2, ins, rfl, hins⟩ := hI.form; have HFp := Lib.hid (MM.Far.trans (MM.Far.refl [] _) hFp (by simp)); have HBp := Lib.hid (HB.out.far HFp.out (by simp)); have HFq := Lib.hid (HF.out.trans HFp.out (by simp)); have HI := Lib.hid hI; clear hI; obtain ⟨v0, v1, v2, v3, v4, v5, v6, v7, v8, v9, v10, y0, y1, y2, y3, y4, y5, y6, y7, y8, y9, y10, hfz⟩ := HBp.out.cells))
  exact fin_pl rfl rfl rfl HBp.out HFq.out (by omega) HI.out
set_option maxRecDepth 20000 in
set_option maxHeartbeats 4000000 in
theorem planList_res (R : Rdy w0 w Z q mb DA n c ns) (kd at_ nn : Int) (s : ByteArray) {LA : Option Addr} {m lc p : Nat} {ps : List Nat} (top : Bool) (hl : Sl w Z (.slice LA m lc) (ints (p :: ps))) (hin : ∀ i ∈ p :: ps, i < n) (hres : reserved (ndAt ns p).s = true) :
    Calls Tryz.prog 66 #[ptr q, .agg #[.int .u8 kd, num at_, num nn, .string s, .slice LA m lc], .bool top] w (PlanQ w Z q (EX.shape ns (ndAt ns p).s at_ ps top)) := by
  have hz := R.env.z
  have hm0 := hl.len
  have hl2 := hl
  rw [int_head] at hl2
  obtain ⟨g, o, d0, e, hc, _, _, hg, hgz, hS0⟩ := hl2.cons
  injection e with e1 e2 e3
  subst e1; subst e3
  obtain ⟨m1, hm1⟩ : ∃ m1, (ints ps).length = m1 := ⟨_, rfl⟩
  rw [hm1] at e2 hS0
  subst e2
  obtain ⟨A', hA'⟩ : ∃ A', (if lc = 1 then some (⟨g, o, none⟩ : Addr) else some ⟨g, o + 1, none⟩) = A' := ⟨_, rfl⟩
  have hsl := fun X => slice_ints g o m1 lc X
  rw [hA'] at hS0 hsl
  obtain ⟨W, hW⟩ : ∃ W, ((w.alloc (.cells #[.int .u8 kd, num at_, num nn, .string s, .slice (some ⟨g, o, none⟩) (m1 + 1) lc] 53)).alloc zP) = W := ⟨_, rfl⟩
  obtain ⟨k, hk⟩ : ∃ k, w.heap.size = k := ⟨_, rfl⟩
  have F0 : MM.Far [] w W := by rw [← hW]; exact ((MM.Far.refl [] w).alloc _).alloc _
  have BL : MM.Row W k 53 [.int .u8 kd, num at_, num nn, .string s, .slice (some ⟨g, o, none⟩) (m1 + 1) lc] := by rw [← hW]; exact (row_new 53 [.int .u8 kd, num at_, num nn, .string s, .slice (some ⟨g, o, none⟩) (m1 + 1) lc] hk).alloc _
  have HB : Hid (PlBox W (k + 1)) := Lib.hid (by rw [← hW]; exact PlBox.new (by simp only [sz_alloc, hk]))
  have HZ : Hid (∀ x ∈ (k + 1) :: Z, x < W.heap.size) := Lib.hid (by rw [← hW]; exact z_cons (by simp only [sz_alloc, hk]) (z_alloc hz))
  have HF := Lib.hid F0
  have HK := Lib.hid hk
  have MZ : ∀ x ∈ (k + 1) :: Z, x ∈ Z ∨ w.heap.size ≤ x := fun x hx => (List.mem_cons.1 hx).elim (fun e => .inr (by omega)) .inl
  have b1 := BL.at (i := 1) rfl
  have b4 := BL.at (i := 4) rfl
  have r0 := far_cell F0 hc
  have hne1 : ¬ (k + 1) = g := by omega
  have e0 : ¬ (k + 1) = k := by omega
  have RW := R.step F0 MZ HZ.out
  obtain ⟨db, d1, LB, lb, rfl, _, z0, z1, z2, z3, z4, hS2⟩ := RW.env.dat R.nd (i := p) (by have := hin p (List.mem_cons_self ..); have := R.len; omega)
  have x0 := RW.env.c0
  have x1 := RW.env.c1
  have hx0 : (0 : Int) ≤ (p : Int) := by omega
  have hx1 : (p : Int) < (n : Int) := by have := hin p (List.mem_cons_self ..); omega
  have hp1 : ¬ ((m1 : Nat) : Int) + 1 = 0 := by omega
  have HR := Lib.hid RW
  have HLS := Lib.hid ((hl.more MZ).far F0 (by simp))
  have HTS := Lib.hid ((hS0.more MZ).far F0 (by simp))
  have hE := RW.env.map.far ((MM.Far.refl [] W).drew) (by simp)
  have hlook := hE.look (ndAt ns p).s
  obtain ⟨S1, hS1⟩ : ∃ S1, (ndAt ns p).s = S1 := ⟨_, rfl⟩
  rw [hS1] at hlook hres z3 ⊢
  rcases hlook with ⟨_, v, hSh, hlk⟩ | ⟨hr2, _⟩
  · have hpsn : ∀ i ∈ ps, i < n := fun i hi => hin i (List.mem_cons_of_mem _ hi)
    cases hSh with
    | btw hI h1 h2 h3 =>
      have HC := Lib.hid (btw_sh (HR.out.step (((MM.Far.refl [] W).drew).drew) (fun _ h => .inl h) (z_drew (z_drew HZ.out))) (hI.far ((MM.Far.refl [] W.drew).drew) (by simp)) at_ (HTS.out.far (((MM.Far.refl [] W).drew).drew) (by simp)) hpsn (h1.far ((MM.Far.refl [] W.drew).drew) (by simp)) (h2.far ((MM.Far.refl [] W.drew).drew) (by simp)) (h3.far ((MM.Far.refl [] W.drew).drew) (by simp)) (top := top))
      clear HLS hl hl2 hz MZ F0 BL hc hg hgz hS0 hA' hm1 hm0 RW R hin z0 z1 z2 z4 hS2 hE hpsn hres hS1 h1 h2 h3 hI
      subst hW; subst hk
      unfold zP num at *
      unfold ptr at *
      go_enter Tryz.func66, Tryz.ntmps66
      go_wp2
      generalize (w.alloc (.cells #[.int .u8 kd, .int .i64 at_, .int .i64 nn, .string s, .slice (some ⟨g, o, none⟩) (m1 + 1) lc] 53)).alloc (.cells #[.bool false, .int .u8 0, .int .i64 0, .int .i64 0, .int .i64 0, .string ⟨#[]⟩, .slice none 0 0, .int .u64 0, .slice none 0 0, .slice none 0 0, .nilFunc] 78) = W at *
      go_region_held3 (fun w' => w'.cell? ⟨w.heap.size, 1, none⟩ = some (.int .i64 at_) ∧ w'.cell? ⟨w.heap.size, 4, none⟩ = some (.slice (some ⟨g, o, none⟩) (m1 + 1) lc) ∧ w'.cell? ⟨q, 0, none⟩ = some (.slice (some ⟨db, d1, none⟩) n c) ∧ w'.cell? ⟨q, 1, none⟩ = some (.map (some mb)) ∧ w'.cell? ⟨g, o, none⟩ = some (.int .i64 p) ∧ w'.cell? ⟨db, d1 + p * 5 + 3, none⟩ = some (.string S1)) (go_keep) (fail)
      go_wp2
      go_region_held3 (fun w' => w'.cell? ⟨w.heap.size, 1, none⟩ = some (.int .i64 at_) ∧ w'.cell? ⟨w.heap.size, 4, none⟩ = some (.slice (some ⟨g, o, none⟩) (m1 + 1) lc)) (first | (with_reducible assumption) | go_keep) (first
        | (go_at_call 80; (with_reducible refine HC.out.mono ?_); rintro e w3 ⟨v3, rfl, hI3, hF3⟩; obtain ⟨bad, kind, at2, nn2, s2, A, m2, c, A2, m3, c2, ins, rfl, hins⟩ := hI3.form; have hk3 := keep2 hF3 (by assumption); have HF3 := Lib.hid ((((MM.Far.refl [] W).drew).drew).trans hF3 (by simp)); have HI3 := Lib.hid hI3; have HB3 := Lib.hid (HB.out.far HF3.out (by simp)); clear hF3 hI3; obtain ⟨v0, v1, v2, v3, v4, v5, v6, v7, v8, v9, v10, y0, y1, y2, y3, y4, y5, y6, y7, y8, y9, y10, hfz⟩ := HB3.out.cells))
      go_wp2
      exact fin_pl rfl rfl rfl HB3.out (HF.out.trans HF3.out (by simp)) (by omega) HI3.out
    | els =>
      have HC := Lib.hid (els_sh (HR.out.step (((MM.Far.refl [] W).drew).drew) (fun _ h => .inl h) (z_drew (z_drew HZ.out))) at_ (HTS.out.far (((MM.Far.refl [] W).drew).drew) (by simp)) (top := top))
      clear HLS hl hl2 hz MZ F0 BL hc hg hgz hS0 hA' hm1 hm0 RW R hin z0 z1 z2 z4 hS2 hE hpsn hres hS1
      subst hW; subst hk
      unfold zP num at *
      unfold ptr at *
      go_enter Tryz.func66, Tryz.ntmps66
      go_wp2
      generalize (w.alloc (.cells #[.int .u8 kd, .int .i64 at_, .int .i64 nn, .string s, .slice (some ⟨g, o, none⟩) (m1 + 1) lc] 53)).alloc (.cells #[.bool false, .int .u8 0, .int .i64 0, .int .i64 0, .int .i64 0, .string ⟨#[]⟩, .slice none 0 0, .int .u64 0, .slice none 0 0, .slice none 0 0, .nilFunc] 78) = W at *
      go_region_held3 (fun w' => w'.cell? ⟨w.heap.size, 1, none⟩ = some (.int .i64 at_) ∧ w'.cell? ⟨w.heap.size, 4, none⟩ = some (.slice (some ⟨g, o, none⟩) (m1 + 1) lc) ∧ w'.cell? ⟨q, 0, none⟩ = some (.slice (some ⟨db, d1, none⟩) n c) ∧ w'.cell? ⟨q, 1, none⟩ = some (.map (some mb)) ∧ w'.cell? ⟨g, o, none⟩ = some (.int .i64 p) ∧ w'.cell? ⟨db, d1 + p * 5 + 3, none⟩ = some (.string nElse)) (go_keep) (fail)
      go_wp2
      go_region_held3 (fun w' => w'.cell? ⟨w.heap.size, 1, none⟩ = some (.int .i64 at_) ∧ w'.cell? ⟨w.heap.size, 4, none⟩ = some (.slice (some ⟨g, o, none⟩) (m1 + 1) lc)) (first | (with_reducible assumption) | go_keep) (first
        | (go_at_call 54; (with_reducible refine HC.out.mono ?_); rintro e w3 ⟨v3, rfl, hI3, hF3⟩; obtain ⟨bad, kind, at2, nn2, s2, A, m2, c, A2, m3, c2, ins, rfl, hins⟩ := hI3.form; have hk3 := keep2 hF3 (by assumption); have HF3 := Lib.hid ((((MM.Far.refl [] W).drew).drew).trans hF3 (by simp)); have HI3 := Lib.hid hI3; have HB3 := Lib.hid (HB.out.far HF3.out (by simp)); clear hF3 hI3; obtain ⟨v0, v1, v2, v3, v4, v5, v6, v7, v8, v9, v10, y0, y1, y2, y3, y4, y5, y6, y7, y8, y9, y10, hfz⟩ := HB3.out.cells))
      go_wp2
      exact fin_pl rfl rfl rfl HB3.out (HF.out.trans HF3.out (by simp)) (by omega) HI3.out
    | and h =>
      have HC := Lib.hid (and_sh (HR.out.step (((MM.Far.refl [] W).drew).drew) (fun _ h => .inl h) (z_drew (z_drew HZ.out))) (h.far ((MM.Far.refl [] W.drew).drew) (by simp)) at_ (HTS.out.far (((MM.Far.refl [] W).drew).drew) (by simp)) (top := top))
      clear HLS hl hl2 hz MZ F0 BL hc hg hgz hS0 hA' hm1 hm0 RW R hin z0 z1 z2 z4 hS2 hE hpsn hres hS1 h
      subst hW; subst hk
      unfold zP num at *
      unfold ptr at *
      go_enter Tryz.func66, Tryz.ntmps66
      go_wp2
      generalize (w.alloc (.cells #[.int .u8 kd, .int .i64 at_, .int .i64 nn, .string s, .slice (some ⟨g, o, none⟩) (m1 + 1) lc] 53)).alloc (.cells #[.bool false, .int .u8 0, .int .i64 0, .int .i64 0, .int .i64 0, .string ⟨#[]⟩, .slice none 0 0, .int .u64 0, .slice none 0 0, .slice none 0 0, .nilFunc] 78) = W at *
      go_region_held3 (fun w' => w'.cell? ⟨w.heap.size, 1, none⟩ = some (.int .i64 at_) ∧ w'.cell? ⟨w.heap.size, 4, none⟩ = some (.slice (some ⟨g, o, none⟩) (m1 + 1) lc) ∧ w'.cell? ⟨q, 0, none⟩ = some (.slice (some ⟨db, d1, none⟩) n c) ∧ w'.cell? ⟨q, 1, none⟩ = some (.map (some mb)) ∧ w'.cell? ⟨g, o, none⟩ = some (.int .i64 p) ∧ w'.cell? ⟨db, d1 + p * 5 + 3, none⟩ = some (.string nAnd)) (go_keep) (fail)
      go_wp2
      go_region_held3 (fun w' => w'.cell? ⟨w.heap.size, 1, none⟩ = some (.int .i64 at_) ∧ w'.cell? ⟨w.heap.size, 4, none⟩ = some (.slice (some ⟨g, o, none⟩) (m1 + 1) lc)) (first | (with_reducible assumption) | go_keep) (first
        | (go_at_call 56; (with_reducible refine HC.out.mono ?_); rintro e w3 ⟨v3, rfl, hI3, hF3⟩; obtain ⟨bad, kind, at2, nn2, s2, A, m2, c, A2, m3, c2, ins, rfl, hins⟩ := hI3.form; have hk3 := keep2 hF3 (by assumption); have HF3 := Lib.hid ((((MM.Far.refl [] W).drew).drew).trans hF3 (by simp)); have HI3 := Lib.hid hI3; have HB3 := Lib.hid (HB.out.far HF3.out (by simp)); clear hF3 hI3; obtain ⟨v0, v1, v2, v3, v4, v5, v6, v7, v8, v9, v10, y0, y1, y2, y3, y4, y5, y6, y7, y8, y9, y10, hfz⟩ := HB3.out.cells))
      go_wp2
      exact fin_pl rfl rfl rfl HB3.out (HF.out.trans HF3.out (by simp)) (by omega) HI3.out
    | or h =>
      have HC := Lib.hid (or_sh (HR.out.step (((MM.Far.refl [] W).drew).drew) (fun _ h => .inl h) (z_drew (z_drew HZ.out))) (h.far ((MM.Far.refl [] W.drew).drew) (by simp)) at_ (HTS.out.far (((MM.Far.refl [] W).drew).drew) (by simp)) (top := top))
      clear HLS hl hl2 hz MZ F0 BL hc hg hgz hS0 hA' hm1 hm0 RW R hin z0 z1 z2 z4 hS2 hE hpsn hres hS1 h
      subst hW; subst hk
      unfold zP num at *
      unfold ptr at *
      go_enter Tryz.func66, Tryz.ntmps66
      go_wp2
      generalize (w.alloc (.cells #[.int .u8 kd, .int .i64 at_, .int .i64 nn, .string s, .slice (some ⟨g, o, none⟩) (m1 + 1) lc] 53)).alloc (.cells #[.bool false, .int .u8 0, .int .i64 0, .int .i64 0, .int .i64 0, .string ⟨#[]⟩, .slice none 0 0, .int .u64 0, .slice none 0 0, .slice none 0 0, .nilFunc] 78) = W at *
      go_region_held3 (fun w' => w'.cell? ⟨w.heap.size, 1, none⟩ = some (.int .i64 at_) ∧ w'.cell? ⟨w.heap.size, 4, none⟩ = some (.slice (some ⟨g, o, none⟩) (m1 + 1) lc) ∧ w'.cell? ⟨q, 0, none⟩ = some (.slice (some ⟨db, d1, none⟩) n c) ∧ w'.cell? ⟨q, 1, none⟩ = some (.map (some mb)) ∧ w'.cell? ⟨g, o, none⟩ = some (.int .i64 p) ∧ w'.cell? ⟨db, d1 + p * 5 + 3, none⟩ = some (.string nOr)) (go_keep) (fail)
      go_wp2
      go_region_held3 (fun w' => w'.cell? ⟨w.heap.size, 1, none⟩ = some (.int .i64 at_) ∧ w'.cell? ⟨w.heap.size, 4, none⟩ = some (.slice (some ⟨g, o, none⟩) (m1 + 1) lc)) (first | (with_reducible assumption) | go_keep) (first
        | (go_at_call 58; (with_reducible refine HC.out.mono ?_); rintro e w3 ⟨v3, rfl, hI3, hF3⟩; obtain ⟨bad, kind, at2, nn2, s2, A, m2, c, A2, m3, c2, ins, rfl, hins⟩ := hI3.form; have hk3 := keep2 hF3 (by assumption); have HF3 := Lib.hid ((((MM.Far.refl [] W).drew).drew).trans hF3 (by simp)); have HI3 := Lib.hid hI3; have HB3 := Lib.hid (HB.out.far HF3.out (by simp)); clear hF3 hI3; obtain ⟨v0, v1, v2, v3, v4, v5, v6, v7, v8, v9, v10, y0, y1, y2, y3, y4, y5, y6, y7, y8, y9, y10, hfz⟩ := HB3.out.cells))
      go_wp2
      exact fin_pl rfl rfl rfl HB3.out (HF.out.trans HF3.out (by simp)) (by omega) HI3.out
  · rw [hres] at hr2; cases hr2
set_option maxRecDepth 20000 in
set_option maxHeartbeats 4000000 in
theorem planList_call (R : Rdy w0 w Z q mb DA n c ns) (kd at_ nn : Int) (s : ByteArray) {LA : Option Addr} {m lc p : Nat} {ps : List Nat} (top : Bool) (hl : Sl w Z (.slice LA m lc) (ints (p :: ps))) (hin : ∀ i ∈ p :: ps, i < n) (hm : m ≤ 100000) (hres : reserved (ndAt ns p).s = false) :
    Calls Tryz.prog 66 #[ptr q, .agg #[.int .u8 kd, num at_, num nn, .string s, .slice LA m lc], .bool top] w (PlanQ w Z q (.mk (frm 10 at_ 0) ((p :: ps).map .dat))) := by
  have hz := R.env.z
  have hm0 := hl.len
  have hl2 := hl
  rw [int_head] at hl2
  obtain ⟨g, o, d0, e, hc, _, _, hg, hgz, hS0⟩ := hl2.cons
  injection e with e1 e2 e3
  subst e1; subst e3
  obtain ⟨m1, hm1⟩ : ∃ m1, (ints ps).length = m1 := ⟨_, rfl⟩
  rw [hm1] at e2 hS0
  subst e2
  obtain ⟨A', hA'⟩ : ∃ A', (if lc = 1 then some (⟨g, o, none⟩ : Addr) else some ⟨g, o + 1, none⟩) = A' := ⟨_, rfl⟩
  have hsl := fun X => slice_ints g o m1 lc X
  rw [hA'] at hS0 hsl
  obtain ⟨W, hW⟩ : ∃ W, ((w.alloc (.cells #[.int .u8 kd, num at_, num nn, .string s, .slice (some ⟨g, o, none⟩) (m1 + 1) lc] 53)).alloc zP) = W := ⟨_, rfl⟩
  obtain ⟨k, hk⟩ : ∃ k, w.heap.size = k := ⟨_, rfl⟩
  have F0 : MM.Far [] w W := by rw [← hW]; exact ((MM.Far.refl [] w).alloc _).alloc _
  have BL : MM.Row W k 53 [.int .u8 kd, num at_, num nn, .string s, .slice (some ⟨g, o, none⟩) (m1 + 1) lc] := by rw [← hW]; exact (row_new 53 [.int .u8 kd, num at_, num nn, .string s, .slice (some ⟨g, o, none⟩) (m1 + 1) lc] hk).alloc _
  have HB : Hid (PlBox W (k + 1)) := Lib.hid (by rw [← hW]; exact PlBox.new (by simp only [sz_alloc, hk]))
  have HZ : Hid (∀ x ∈ (k + 1) :: Z, x < W.heap.size) := Lib.hid (by rw [← hW]; exact z_cons (by simp only [sz_alloc, hk]) (z_alloc hz))
  have HF := Lib.hid F0
  have HK := Lib.hid hk
  have MZ : ∀ x ∈ (k + 1) :: Z, x ∈ Z ∨ w.heap.size ≤ x := fun x hx => (List.mem_cons.1 hx).elim (fun e => .inr (by omega)) .inl
  have b1 := BL.at (i := 1) rfl
  have b4 := BL.at (i := 4) rfl
  have r0 := far_cell F0 hc
  have hne1 : ¬ (k + 1) = g := by omega
  have e0 : ¬ (k + 1) = k := by omega
  have RW := R.step F0 MZ HZ.out
  obtain ⟨db, d1, LB, lb, rfl, _, z0, z1, z2, z3, z4, hS2⟩ := RW.env.dat R.nd (i := p) (by have := hin p (List.mem_cons_self ..); have := R.len; omega)
  have x0 := RW.env.c0
  have x1 := RW.env.c1
  have hx0 : (0 : Int) ≤ (p : Int) := by omega
  have hx1 : (p : Int) < (n : Int) := by have := hin p (List.mem_cons_self ..); omega
  have hp1 : ¬ ((m1 : Nat) : Int) + 1 = 0 := by omega
  have HR := Lib.hid RW
  have HLS := Lib.hid ((hl.more MZ).far F0 (by simp))
  have HTS := Lib.hid ((hS0.more MZ).far F0 (by simp))
  have hE := RW.env.map.far ((MM.Far.refl [] W).drew) (by simp)
  have hlook := hE.look (ndAt ns p).s
  obtain ⟨S1, hS1⟩ : ∃ S1, (ndAt ns p).s = S1 := ⟨_, rfl⟩
  rw [hS1] at hlook hres z3
  rcases hlook with ⟨hr2, _⟩ | ⟨_, hlk⟩
  · rw [hres] at hr2; cases hr2
  · have HC := Lib.hid (all_any W.drew.drew q (z_drew (z_drew HZ.out)) (HLS.out.far (((MM.Far.refl [] W).drew).drew) (by simp)) (by rw [List.length_cons, ← hm1, ints_len]) (by omega))
    clear HLS hl hl2 hz MZ F0 BL hc hg hgz hS0 hA' hm1 hm0 RW R hin z0 z1 z2 z4 hS2 hE hres hS1 hm
    subst hW; subst hk
    unfold zP num at *
    unfold ptr at *
    go_enter Tryz.func66, Tryz.ntmps66
    go_wp2
    generalize (w.alloc (.cells #[.int .u8 kd, .int .i64 at_, .int .i64 nn, .string s, .slice (some ⟨g, o, none⟩) (m1 + 1) lc] 53)).alloc (.cells #[.bool false, .int .u8 0, .int .i64 0, .int .i64 0, .int .i64 0, .string ⟨#[]⟩, .slice none 0 0, .int .u64 0, .slice none 0 0, .slice none 0 0, .nilFunc] 78) = W at *
    go_region_held3 (fun w' => w'.cell? ⟨w.heap.size, 1, none⟩ = some (.int .i64 at_) ∧ w'.cell? ⟨w.heap.size, 4, none⟩ = some (.slice (some ⟨g, o, none⟩) (m1 + 1) lc) ∧ w'.cell? ⟨q, 0, none⟩ = some (.slice (some ⟨db, d1, none⟩) n c) ∧ w'.cell? ⟨q, 1, none⟩ = some (.map (some mb)) ∧ w'.cell? ⟨g, o, none⟩ = some (.int .i64 p) ∧ w'.cell? ⟨db, d1 + p * 5 + 3, none⟩ = some (.string S1)) (go_keep) (fail)
    go_wp2
    go_region_held3 (fun w' => w'.cell? ⟨w.heap.size, 1, none⟩ = some (.int .i64 at_) ∧ w'.cell? ⟨w.heap.size, 4, none⟩ = some (.slice (some ⟨g, o, none⟩) (m1 + 1) lc)) (first | (with_reducible assumption) | go_keep) (first
      | (go_at_call 85; (with_reducible refine HC.out.mono ?_); rintro e w1 ⟨g1, m2, vs, rfl, hm1, hS1, hI1, hF1⟩; have hk1 := keep2 hF1 (by assumption); have HF1 := Lib.hid ((((MM.Far.refl [] W).drew).drew).trans hF1 (by simp)); have HB1 := Lib.hid (HB.out.far HF1.out (by simp)); have HS1 := Lib.hid hS1; have HI1 := Lib.hid hI1; clear hF1 hS1 hI1 hm1; obtain ⟨v0, v1, v2, v3, v4, v5, v6, v7, v8, v9, v10, y0, y1, y2, y3, y4, y5, y6, y7, y8, y9, y10, hfz⟩ := HB1.out.cells))
    go_wp2
    exact fin_pl rfl rfl rfl HB1.out (HF.out.trans HF1.out (by simp)) (by omega) ⟨_, _, vs, rfl, Sl.nil _ _, HS1.out, HI1.out⟩
theorem planList_any (R : Rdy w0 w Z q mb DA n c ns) (kd at_ nn : Int) (s : ByteArray) {LA : Option Addr} {m lc : Nat} {l : List Nat} (top : Bool) (hl : Sl w Z (.slice LA m lc) (ints l)) (hin : ∀ i ∈ l, i < n) (hm : l.length = m) (hm2 : m ≤ 100000) :
    Calls Tryz.prog 66 #[ptr q, .agg #[.int .u8 kd, num at_, num nn, .string s, .slice LA m lc], .bool top] w (PlanQ w Z q (listP ns ⟨kd, at_, nn, s, l⟩ top)) := by
  unfold listP
  cases l with
  | nil =>
    rw [if_pos rfl]
    subst hm
    exact planList_nil R.env.z kd at_ nn s LA lc top
  | cons p ps =>
    rw [if_neg (by simp)]
    simp only [List.getD_cons_zero, List.drop_succ_cons, List.drop_zero]
    by_cases hr : reserved (ndAt ns p).s = true
    · rw [if_pos hr]
      exact planList_res R kd at_ nn s top hl hin hr
    · rw [if_neg hr]
      exact planList_call R kd at_ nn s top hl hin hm2 (by simpa using hr)
end
end EW
end Go.Proofs.YtaghlpolljaedaaGreat
/-
  Contracts of the code's plan and of every part: what becomes of it. Conditions: sizes; the row of data may be.
-/
namespace Go.Proofs.YtaghlpolljaedaaGreat
open Go.RowKit
namespace EW
open LX SX RW6 EX
open RX (Nd)
section
variable {w0 w : World} {Z : List Nat} {q mb : Nat} {DA : Option Addr} {n c : Nat} {ns : List Nd}
set_option maxRecDepth 20000 in
set_option maxHeartbeats 4000000 in
theorem plan_any (R : Rdy w0 w Z q mb DA n c ns) {i : Nat} (hi : i < n) (top : Bool) :
    Calls Tryz.prog 28 #[ptr q, num i, .bool top] w (PlanQ w Z q (EX.plan ns i top)) := by
  have hz := R.env.z
  obtain ⟨W, hW⟩ : ∃ W, (w.alloc zP) = W := ⟨_, rfl⟩
  obtain ⟨k, hk⟩ : ∃ k, w.heap.size = k := ⟨_, rfl⟩
  have F0 : MM.Far [] w W := by rw [← hW]; exact ((MM.Far.refl [] w).alloc _)
  have HB : Hid (PlBox W k) := Lib.hid (by rw [← hW]; exact PlBox.new hk)
  have HZ : Hid (∀ x ∈ k :: Z, x < W.heap.size) := Lib.hid (by rw [← hW]; exact z_cons hk hz)
  have HF := Lib.hid F0
  have HK := Lib.hid hk
  have MZ : ∀ x ∈ k :: Z, x ∈ Z ∨ w.heap.size ≤ x := fun x hx => (List.mem_cons.1 hx).elim (fun e => .inr (by omega)) .inl
  have RW := R.step F0 MZ HZ.out
  obtain ⟨db, d1, LA, lc, rfl, _, z0, z1, z2, z3, z4, hS2⟩ := RW.env.dat R.nd (i := i) (by have := R.len; omega)
  have x0 := RW.env.c0
  have hx0 : (0 : Int) ≤ (i : Int) := by omega
  have hx1 : (i : Int) < (n : Int) := by omega
  have hkid : ∀ p ∈ (ndAt ns i).l, p < n := fun p hp => R.kid hp
  have hll := R.few i hi
  have hss := R.str i
  have HR := Lib.hid (fun (x : World) (f : MM.Far [] W x) => RW.step f (fun _ h => .inl h) (z_far HZ.out f))
  unfold EX.plan
  simp only []
  generalize ndAt ns i = d at z0 z1 z2 z3 z4 hS2 hkid hll hss ⊢
  obtain ⟨kd, at_, nn, s, ll⟩ := d
  simp only at z0 z1 z2 z3 z4 hS2 hkid hll hss ⊢
  obtain ⟨m1, hm1⟩ : ∃ m1, ll.length = m1 := ⟨_, rfl⟩
  rw [hm1] at z4 hS2 hll
  have FN := (MM.Far.refl [] W).alloc (.cells #[.int .u8 kd, .int .i64 at_, .int .i64 nn, .string s, .slice LA m1 lc] 53)
  have HFN := Lib.hid FN
  have HBN := Lib.hid (HB.out.far FN (by simp))
  have HLS := Lib.hid (hS2.far FN (by simp))
  by_cases k1 : kd = 1
  · subst k1
    rw [if_pos rfl]
    clear hz F0 MZ RW hkid hll hss HR hm1 hS2 FN HLS R
    subst hW; subst hk
    unfold zP num at *
    unfold ptr at *
    go_enter Tryz.func28, Tryz.ntmps28
    go_wp2
    exact bodyPost_ret (v := plV false (frm 1 at_ nn) (.slice none 0 0) (.slice none 0 0) .nilFunc) (by simp [plV, num, frm, LX.emp, results, Tryz.results28, go_sem]) rfl ⟨_, rfl, ⟨_, _, [], rfl, Sl.nil _ _, Sl.nil _ _, Iss.nil _ _ _⟩, ((MM.Far.refl [] w).alloc _).alloc _⟩
  by_cases k2 : kd = 2
  · subst k2
    rw [if_neg (by decide), if_pos rfl]
    clear hz F0 MZ RW hkid hll hss HR hm1 hS2 FN HLS R k1
    subst hW; subst hk
    unfold zP num at *
    unfold ptr at *
    go_enter Tryz.func28, Tryz.ntmps28
    go_wp2
    exact bodyPost_ret (v := plV false (frm 2 at_ nn) (.slice none 0 0) (.slice none 0 0) .nilFunc) (by simp [plV, num, frm, LX.emp, results, Tryz.results28, go_sem]) rfl ⟨_, rfl, ⟨_, _, [], rfl, Sl.nil _ _, Sl.nil _ _, Iss.nil _ _ _⟩, ((MM.Far.refl [] w).alloc _).alloc _⟩
  by_cases k3 : kd = 3
  · subst k3
    rw [if_neg (by decide), if_neg (by decide), if_pos rfl]
    have HC := Lib.hid (reserved_any (HR.out _ FN).env s)
    by_cases hr : reserved s = true
    · rw [if_pos hr]
      rw [hr] at HC
      clear hz F0 MZ RW hkid hll hss HR hm1 hS2 FN HLS R k1 k2 hr
      subst hW; subst hk
      unfold zP num at *
      unfold ptr at *
      go_enter Tryz.func28, Tryz.ntmps28
      go_wp2_with (first
        | (go_at_call 21; (with_reducible refine HC.out.mono ?_); rintro e w1 ⟨rfl, rfl⟩)
        | (go_at_call 55; refine (wrong_any (Z := w.heap.size :: Z) _ q at_).mono ?_; rintro e wp ⟨v, rfl, hI, hFp⟩; obtain ⟨bad, kind, at_, nn, s, A, m, c, A2, m2, c2, ins, rfl, hins⟩ := hI.form; have HFp := Lib.hid (MM.Far.trans (HFN.out) hFp (by simp)); have HBp := Lib.hid (HB.out.far HFp.out (by simp)); have HFq := Lib.hid (HF.out.trans HFp.out (by simp)); have HI := Lib.hid hI; clear hI; obtain ⟨v0, v1, v2, v3, v4, v5, v6, v7, v8, v9, v10, y0, y1, y2, y3, y4, y5, y6, y7, y8, y9, y10, hfz⟩ := HBp.out.cells))
      exact fin_pl rfl rfl rfl HBp.out HFq.out (Nat.le_refl _) HI.out
    · have hr2 : reserved s = false := by simpa using hr
      rw [if_neg hr]
      rw [hr2] at HC
      obtain ⟨W2, hW2⟩ : ∃ W2, W.alloc (.cells #[.int .u8 3, .int .i64 at_, .int .i64 nn, .string s, .slice LA m1 lc] 53) = W2 := ⟨_, rfl⟩
      have HCL := Lib.hid (MC.clone_any s W2.drew hss)
      have NB : MM.Row W2 W.heap.size 53 [.int .u8 3, .int .i64 at_, .int .i64 nn, .string s, .slice LA m1 lc] := by rw [← hW2]; exact MM.Row.new W 53 [.int .u8 3, .int .i64 at_, .int .i64 nn, .string s, .slice LA m1 lc]
      have n1 := NB.at (i := 1) rfl
      have n3 := NB.at (i := 3) rfl
      have hsz : W.heap.size = k + 1 := by rw [← hW, sz_alloc, hk]
      rw [hsz] at n1 n3
      have HW2 := Lib.hid hW2
      clear hz F0 MZ RW hkid hll hss HR hm1 hS2 FN HLS R k1 k2 hr hr2 NB hsz hW2
      subst hW; subst hk
      unfold zP num at *
      unfold ptr at *
      go_enter Tryz.func28, Tryz.ntmps28
      go_wp2_with (first
        | (go_at_call 21; (with_reducible refine HC.out.mono ?_); rintro e w1 ⟨rfl, rfl⟩))
      rw [HW2.out] at HBN HFN ⊢
      go_region_held3 (fun w' => w'.cell? ⟨w.heap.size + 1, 1, none⟩ = some (.int .i64 at_) ∧ w'.cell? ⟨w.heap.size + 1, 3, none⟩ = some (.string s)) (first | (with_reducible assumption) | go_keep) (first
        | (go_at_call 65; (with_reducible refine HCL.out.mono ?_); rintro e w3 ⟨rfl, hF3⟩; have hk3 := keep2 hF3 (by assumption); have HF3 := Lib.hid ((HFN.out.drew).trans hF3 (by simp)); have HB3 := Lib.hid (HBN.out.far (((MM.Far.refl [] W2).drew).trans hF3 (by simp)) (by simp)); clear hF3; obtain ⟨v0, v1, v2, v3, v4, v5, v6, v7, v8, v9, v10, y0, y1, y2, y3, y4, y5, y6, y7, y8, y9, y10, hfz⟩ := HB3.out.cells))
      go_wp2
      exact fin_pl rfl rfl rfl HB3.out (HF.out.trans HF3.out (by simp)) (Nat.le_refl _) ⟨_, _, [], rfl, Sl.nil _ _, Sl.nil _ _, Iss.nil _ _ _⟩
  · rw [if_neg k1, if_neg k2, if_neg k3]
    have HC := Lib.hid (planList_any (HR.out _ FN) kd at_ nn s top HLS.out hkid hm1 hll)
    obtain ⟨pl, hpl⟩ : ∃ pl, listP ns ⟨kd, at_, nn, s, ll⟩ top = pl := ⟨_, rfl⟩
    rw [hpl] at HC ⊢
    have h1 : (kd == 1) = false := by simp [k1]
    have h2 : (kd == 2) = false := by simp [k2]
    have h3 : (kd == 3) = false := by simp [k3]
    clear hz F0 MZ RW hkid hll hss HR hm1 hS2 FN HLS R hpl
    subst hW; subst hk
    unfold zP num at *
    unfold ptr at *
    go_enter Tryz.func28, Tryz.ntmps28
    go_wp2_with (first
      | (go_at_call 66; refine HC.out.mono ?_; rintro e wp ⟨v, rfl, hI, hFp⟩; obtain ⟨bad, kind, at_, nn, s, A, m, c, A2, m2, c2, ins, rfl, hins⟩ := hI.form; have HFp := Lib.hid (MM.Far.trans (HFN.out) hFp (by simp)); have HBp := Lib.hid (HB.out.far HFp.out (by simp)); have HFq := Lib.hid (HF.out.trans HFp.out (by simp)); have HI := Lib.hid hI; clear hI; obtain ⟨v0, v1, v2, v3, v4, v5, v6, v7, v8, v9, v10, y0, y1, y2, y3, y4, y5, y6, y7, y8, y9, y10, hfz⟩ := HBp.out.cells))
    exact fin_pl rfl rfl rfl HBp.out HFq.out (Nat.le_refl _) HI.out
set_option maxRecDepth 20000 in
set_option maxHeartbeats 4000000 in
theorem dat_call (R : Rdy w0 w Z q mb DA n c ns) {i bx bi : Nat} (hi : i < n) (h1 : Bx w Z bx 44 (ptr q)) (h2 : Bx w Z bi 3 (num i)) :
    Calls Tryz.prog 99 #[ptr bx, ptr bi] w (PlanQ w Z q (EX.plan ns i false)) := by
  have hz := R.env.z
  obtain ⟨W, hW⟩ : ∃ W, (w.alloc zP) = W := ⟨_, rfl⟩
  obtain ⟨k, hk⟩ : ∃ k, w.heap.size = k := ⟨_, rfl⟩
  have F0 : MM.Far [] w W := by rw [← hW]; exact ((MM.Far.refl [] w).alloc _)
  have HB : Hid (PlBox W k) := Lib.hid (by rw [← hW]; exact PlBox.new hk)
  have HZ : Hid (∀ x ∈ k :: Z, x < W.heap.size) := Lib.hid (by rw [← hW]; exact z_cons hk hz)
  have HF := Lib.hid F0
  have HK := Lib.hid hk
  have MZ : ∀ x ∈ k :: Z, x ∈ Z ∨ w.heap.size ≤ x := fun x hx => (List.mem_cons.1 hx).elim (fun e => .inr (by omega)) .inl
  have HC := Lib.hid (plan_any (R.step F0 MZ HZ.out) hi false)
  have g1 := (h1.far F0 (by simp)).at
  have g2 := (h2.far F0 (by simp)).at
  clear hz F0 MZ h1 h2 R
  obtain ⟨pl, hpl⟩ : ∃ pl, EX.plan ns i false = pl := ⟨_, rfl⟩
  rw [hpl] at HC ⊢
  clear hpl
  subst hW; subst hk
  unfold zP num at *
  unfold ptr at *
  go_enter Tryz.func99, Tryz.ntmps99
  go_wp2_with (first
    | (go_at_call 28; refine HC.out.mono ?_; rintro e wp ⟨v, rfl, hI, hFp⟩; obtain ⟨bad, kind, at_, nn, s, A, m, c, A2, m2, c2, ins, rfl, hins⟩ := hI.form; have HFp := Lib.hid (MM.Far.trans ((MM.Far.refl [] _)) hFp (by simp)); have HBp := Lib.hid (HB.out.far HFp.out (by simp)); have HFq := Lib.hid (HF.out.trans HFp.out (by simp)); have HI := Lib.hid hI; clear hI; obtain ⟨v0, v1, v2, v3, v4, v5, v6, v7, v8, v9, v10, y0, y1, y2, y3, y4, y5, y6, y7, y8, y9, y10, hfz⟩ := HBp.out.cells))
  exact fin_pl rfl rfl rfl HBp.out HFq.out (Nat.le_refl _) HI.out
set_option maxRecDepth 20000 in
set_option maxHeartbeats 4000000 in
theorem top_call (R : Rdy w0 w Z q mb DA n c ns) {i bx bi : Nat} (hi : i < n) (h1 : Bx w Z bx 44 (ptr q)) (h2 : Bx w Z bi 3 (num i)) :
    Calls Tryz.prog 27 #[ptr bx, ptr bi] w (PlanQ w Z q (EX.plan ns i true)) := by
  have hz := R.env.z
  obtain ⟨W, hW⟩ : ∃ W, (w.alloc zP) = W := ⟨_, rfl⟩
  obtain ⟨k, hk⟩ : ∃ k, w.heap.size = k := ⟨_, rfl⟩
  have F0 : MM.Far [] w W := by rw [← hW]; exact ((MM.Far.refl [] w).alloc _)
  have HB : Hid (PlBox W k) := Lib.hid (by rw [← hW]; exact PlBox.new hk)
  have HZ : Hid (∀ x ∈ k :: Z, x < W.heap.size) := Lib.hid (by rw [← hW]; exact z_cons hk hz)
  have HF := Lib.hid F0
  have HK := Lib.hid hk
  have MZ : ∀ x ∈ k :: Z, x ∈ Z ∨ w.heap.size ≤ x := fun x hx => (List.mem_cons.1 hx).elim (fun e => .inr (by omega)) .inl
  have HC := Lib.hid (plan_any (R.step F0 MZ HZ.out) hi true)
  have g1 := (h1.far F0 (by simp)).at
  have g2 := (h2.far F0 (by simp)).at
  clear hz F0 MZ h1 h2 R
  obtain ⟨pl, hpl⟩ : ∃ pl, EX.plan ns i true = pl := ⟨_, rfl⟩
  rw [hpl] at HC ⊢
  clear hpl
  subst hW; subst hk
  unfold zP num at *
  unfold ptr at *
  go_enter Tryz.func27, Tryz.ntmps27
  go_wp2_with (first
    | (go_at_call 28; refine HC.out.mono ?_; rintro e wp ⟨v, rfl, hI, hFp⟩; obtain ⟨bad, kind, at_, nn, s, A, m, c, A2, m2, c2, ins, rfl, hins⟩ := hI.form; have HFp := Lib.hid (MM.Far.trans ((MM.Far.refl [] _)) hFp (by simp)); have HBp := Lib.hid (HB.out.far HFp.out (by simp)); have HFq := Lib.hid (HF.out.trans HFp.out (by simp)); have HI := Lib.hid hI; clear hI; obtain ⟨v0, v1, v2, v3, v4, v5, v6, v7, v8, v9, v10, y0, y1, y2, y3, y4, y5, y6, y7, y8, y9, y10, hfz⟩ := HBp.out.cells))
  exact fin_pl rfl rfl rfl HBp.out HFq.out (Nat.le_refl _) HI.out
end
end EW
end Go.Proofs.YtaghlpolljaedaaGreat
/-
  Contract of every part of layer 8's code: what it comes to is what the part says. Conditions: sizes; the row of data may be.
-/
namespace Go.Proofs.YtaghlpolljaedaaGreat
open Go.RowKit
namespace EW
open LX SX RW6 EX
open RX (Nd)
section
variable {w0 w : World} {Z : List Nat} {q mb : Nat} {DA : Option Addr} {n c : Nat} {ns : List Nd}
theorem part_any (R : Rdy w0 w Z q mb DA n c ns) {v : Value} {p : Pt} (h : Is w Z q v p) (ht : There ns p) (hw : Wee 100000 p) :
    ∃ f cs, v = .func (.func f) #[] cs ∧ (∀ W, (callFunc f cs).run Tryz.prog W = .ok (.enter f cs) W) ∧ Calls Tryz.prog f cs w (PlanQ w Z q (ev ns p)) := by
  have hz := R.env.z
  have hn := R.len
  cases h with
  | top h1 h2 => exact ⟨_, _, rfl, fun W => by kernel_rfl, top_call R (by have : _ < ns.length := ht; omega) h1 h2⟩
  | dat h1 h2 => exact ⟨_, _, rfl, fun W => by kernel_rfl, dat_call R (by have : _ < ns.length := ht; omega) h1 h2⟩
  | seq h1 h2 h3 h4 => exact ⟨_, _, rfl, fun W => by kernel_rfl, seq_call w q hz h1 h2 h3 h4 (by have : _ ≤ 100000 := hw; omega)⟩
  | tr h1 h2 => exact ⟨_, _, rfl, fun W => by kernel_rfl, tr_call w q h1 h2⟩
  | kept h1 => exact ⟨_, _, rfl, fun W => by kernel_rfl, kept_call w q hz h1⟩
  | fn h1 h2 h3 h4 h5 => exact ⟨_, _, rfl, fun W => by kernel_rfl, fn_call w q hz h1 h2 h3 h4 h5⟩
  | fnd h1 h0 h2 h3 h4 h5 => exact ⟨_, _, rfl, fun W => by kernel_rfl, fnd_call w q hz h1 h2 h3 h4 h5⟩
  | nested h1 h2 h3 h4 h5 h6 h7 h8 => exact ⟨_, _, rfl, fun W => by kernel_rfl, nested_call w q hz h1 h2 h3 h4 h5 h6 h7 h8 ht.1⟩
  | cond h1 h2 h3 h4 => exact ⟨_, _, rfl, fun W => by kernel_rfl, tail_cond w q hz h1 h2 h3 h4 (fun x Z2 v' f hZ hz2 hs => cond_any (R.step f hZ hz2) _ hs (fun i hi => by have := (show ∀ i ∈ _, i < ns.length from ht) i hi; omega))⟩
  | and h1 h2 h3 h4 => exact ⟨_, _, rfl, fun W => by kernel_rfl, tail_and w q hz h1 h2 h3 h4 (fun x Z2 v' f hZ hz2 hs => and_any x q hz2 _ hs)⟩
  | or h1 h2 h3 h4 => exact ⟨_, _, rfl, fun W => by kernel_rfl, tail_or w q hz h1 h2 h3 h4 (fun x Z2 v' f hZ hz2 hs => or_any x q hz2 _ hs)⟩
  | orb h1 h2 h3 => exact ⟨_, _, rfl, fun W => by kernel_rfl, orb_call w q hz h1 h2 h3⟩
end
end EW
end Go.Proofs.YtaghlpolljaedaaGreat
