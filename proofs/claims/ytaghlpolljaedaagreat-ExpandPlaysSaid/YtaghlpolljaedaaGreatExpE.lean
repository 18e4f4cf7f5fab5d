/-
  Several texts in one: ExpE1, ExpE2. Each one's own head tells its conditions.
-/
import Derived.Test.YtaghlpolljaedaaGreatExpS
import Derived.Test.YtaghlpolljaedaaGreatExpM4
import Derived.BigQuiet
import Derived.Deep.Onto
/-
  Contracts of layer 8's code: newExpander, Reserved, areIndices. Conditions: sizes.
-/
namespace Go.Proofs.YtaghlpolljaedaaGreat
open Go.RowKit
namespace EW
open LX SX RW6 EX
open RX (Nd)
open RM6 (Kin)
def NewQ (w : World) (dv : Value) (e : Ending) (w' : World) : Prop := ∃ q mb, e = .returned (ptr q) ∧ Mx w w' [q] q mb dv (.slice none 0 0) (.slice none 0 0) (.slice none 0 0) (.slice none 0 0) [] [] [] []
set_option maxRecDepth 20000 in
set_option maxHeartbeats 4000000 in
theorem newExp_any (w : World) (A : Option Addr) (n c : Nat) : Calls Tryz.prog 17 #[.slice A n c] w (NewQ w (.slice A n c)) := by
  obtain ⟨W, hW⟩ : ∃ W, w.alloc (.cells #[.slice A n c, .map none, .slice none 0 0, .slice none 0 0, .slice none 0 0] 51) = W := ⟨_, rfl⟩
  obtain ⟨q, hq⟩ : ∃ q, w.heap.size = q := ⟨_, rfl⟩
  have hR : MM.Row W q 51 [.slice A n c, .map none, .slice none 0 0, .slice none 0 0, .slice none 0 0] := by rw [← hW, ← hq]; exact MM.Row.new w 51 [.slice A n c, .map none, .slice none 0 0, .slice none 0 0, .slice none 0 0]
  have hqW : ∀ b ∈ [q], b < W.heap.size := fun b hb => by
    have : b = q := by simpa using hb
    rw [this, ← hW, sz_alloc]; omega
  have HF : Hid (MM.Far [] w W) := Lib.hid (by rw [← hW]; exact (MM.Far.refl [] w).alloc _)
  have HC := Lib.hid (allShapes_any W (Z := [q]) (q := q) hqW)
  have HR := Lib.hid hR
  have HQW := Lib.hid hqW
  have HQ := Lib.hid hq
  clear hR hqW
  subst hW; subst hq
  unfold ptr at HC
  go_enter Tryz.func17, Tryz.ntmps17
  go_wp2_with (first
    | (go_at_call 26; (with_reducible refine HC.out.mono ?_); rintro e w1 ⟨mb, rfl, hM, hF1⟩; have hR1 := HR.out.far hF1 (by simp); have c1 := hR1.at (i := 1) rfl; have f1 := hR1.frozen 1; have HM := Lib.hid hM; have HF1 := Lib.hid (HF.out.trans hF1 (by simp)); have HR1 := Lib.hid hR1; clear hM hF1 hR1))
  go_ret
  have g := cell_far w1 w.heap.size 1 (.map (some mb))
  have F2 : MM.Far [] w (w1.setCell ⟨w.heap.size, 1, none⟩ (.map (some mb))) := HF1.out.trans g (fun b hb hl => by simp at hb; omega)
  refine ⟨w.heap.size, mb, rfl, F2, Nat.le_refl _, HR1.out.put 1 (.map (some mb)), MO.none_ _ _ _ _, MO.none_ _ _ _ _, ?_, ?_, ?_, by simp, fun b hb => by simp [Value.ownBlock] at hb, fun b hb => by simp [Value.ownBlock] at hb, ?_, ?_⟩
  · exact Kin.none_ (ks := []) ⟨fun k hk => by simp at hk, List.Pairwise.nil⟩
  · intro b hb
    have : b = w.heap.size := by simpa using hb
    omega
  · intro b hb
    have : b = w.heap.size := by simpa using hb
    have h1 := HR1.out.lt
    have h2 := g.size
    omega
  · intro k hk b hb
    have : k = (.slice none 0 0, []) := by simpa [kinsF, kinsO] using hk
    subst this
    simp [Value.ownBlock] at hb
  · exact ⟨HM.out.far g (fun b hb _ => hb), (fun x hx => absurd hx (by simp)), (fun x hx => absurd hx (by simp))⟩
theorem reservedF_any (w : World) (s : ByteArray) : Calls Tryz.prog 11 #[.string s] w fun e w' => e = .returned (.bool (reserved s)) ∧ MM.Far [] w w' := by
  have HC := Lib.hid (newExp_any w none 0 0)
  go_enter Tryz.func11, Tryz.ntmps11
  go_wp2_with (first
    | (go_at_call 17; (with_reducible refine HC.out.mono ?_); rintro e w1 ⟨q, mb, rfl, hM⟩; have HF := Lib.hid hM.far; have HC2 := Lib.hid (reserved_any hM.env s); clear hM)
    | (go_at_call 21; (with_reducible refine HC2.out.mono ?_); rintro e w2 ⟨rfl, rfl⟩))
  go_ret
  exact ⟨rfl, HF.out⟩
def inRange (N : Int) (zs : List Int) : Bool := zs.all fun z => decide (0 ≤ z ∧ z < N)
theorem areIdx_any (w : World) {A : Option Addr} {m c : Nat} {zs : List Int} (h : Sl w [] (.slice A m c) (zs.map num)) (hm : zs.length = m) (hmx : m ≤ 100000) (N : Int) :
    Calls Tryz.prog 16 #[.slice A m c, num N] w fun e w' => e = .returned (.bool (inRange N zs)) ∧ MM.Far [] w w' := by
  have HS := Lib.hid h
  have HN := Lib.hid hm
  clear h hm
  unfold num
  go_enter Tryz.func16, Tryz.ntmps16
  go_wp2
  go_loopw [9] (fun i wr => ∃ k : Nat, k ≤ m ∧ i = .int .i64 (k : Int) ∧ Hid ((∀ j z, j < k → zs[j]? = some z → 0 ≤ z ∧ z < N) ∧ wr = w)) (fun i _ => m - (intOf i).toNat)
  case atStart => exact ⟨0, by omega, rfl, Lib.hid ⟨fun j z hj => by omega, rfl⟩⟩
  case round =>
    obtain ⟨k, hk, rfl, hH⟩ := hrel
    obtain ⟨hyes, rfl⟩ := hH.out
    have HY := Lib.hid hyes
    clear hH hyes
    by_cases hlt : k < m
    · have hk2 : k < zs.length := by rw [HN.out]; exact hlt
      obtain ⟨A', c', e, hc1, hc2, hc3⟩ := HS.out
      injection e with e1 e2 e3
      subst e1 e3
      obtain ⟨g, o, rfl, hz, hg, cc⟩ := hc3 k (num zs[k]) (by rw [List.getElem?_map, List.getElem?_eq_getElem hk2]; rfl)
      have HL : Hid (zs[k]? = some zs[k]) := Lib.hid (List.getElem?_eq_getElem hk2)
      generalize zs[k] = x at *
      unfold num at cc
      clear hk2 e2 hc1 hc2 hc3 hz hg
      by_cases hx : 0 ≤ x ∧ x < N
      · have hx1 : ¬ x < 0 := by omega
        have hx2 : ¬ N ≤ x := by omega
        go_wp2
        go_roundw
        case rel => exact ⟨k + 1, by omega, by go_num, Lib.hid ⟨fun j z hj e => by
          by_cases hjk : j = k
          · subst hjk; rw [HL.out] at e; injection e with e; subst e; exact hx
          · exact HY.out j z (by omega) e, trivial⟩⟩
        case measure => simp [intOf]; omega
      · have HBAD : Hid (inRange N zs = false) := Lib.hid (by
          unfold inRange
          rw [List.all_eq_false]
          exact ⟨x, List.mem_of_getElem? HL.out, by simpa using hx⟩)
        rcases (show x < 0 ∨ (¬ x < 0 ∧ N ≤ x) by omega) with hx1 | ⟨hx1, hx2⟩
        all_goals
          go_wp2
          go_ret
          refine ⟨?_, MM.Far.refl _ _⟩
          rw [HBAD.out]
          rfl
    · obtain rfl : k = m := by omega
      have HOK : Hid (inRange N zs = true) := Lib.hid (by
        unfold inRange
        rw [List.all_eq_true]
        intro z hz
        obtain ⟨j, hj⟩ := List.getElem?_of_mem hz
        have hjl := (List.getElem?_eq_some_iff.1 hj).1
        exact decide_eq_true (HY.out j z (by have := HN.out; omega) hj))
      go_wp2
      go_ret
      refine ⟨?_, MM.Far.refl _ _⟩
      rw [HOK.out]
      rfl
end EW
end Go.Proofs.YtaghlpolljaedaaGreat
/-
  Contract of layer 8's code: Expand, over data that may be. Conditions: sizes; there are no more than 100000 forms.
-/
namespace Go.Proofs.YtaghlpolljaedaaGreat
open Go.RowKit
namespace EW
open LX SX RW6 EX
open RX (Nd)
open RM6 (Kin)
/-- The forms, and which stand by themselves: rows of the call's own. -/
structure DoneF (w0 w : World) (fv tv : Value) (rs : List (Fm × Value × Value)) (tops : List Nat) : Prop where
  far : MM.Far [] w0 w
  row : w.ownsRow w0.heap.size 41 8 fv rs.length (fmC rs)
  kin : Kin w w0.heap.size ((tv, tops) :: kinsF rs)
  nam : ∀ x ∈ rs, Sl w [] x.2.1 (strs x.1.p)
def ExpQ (w0 : World) : Except Int (List Fm × List Nat) → Ending → World → Prop
  | .error a, e, w => e = .returned (.tuple #[.slice none 0 0, .slice none 0 0, .int .i64 a, .int .i64 80]) ∧ MM.Far [] w0 w
  | .ok r, e, w => ∃ fv tv rs, e = .returned (.tuple #[fv, tv, .int .i64 0, .int .i64 0]) ∧ DoneF w0 w fv tv rs r.2 ∧ rs.map (·.1) = r.1
theorem Mx.done {w0 w : World} {Z : List Nat} {q mb : Nat} {dv fv tv hv ov : Value} {rs : List (Fm × Value × Value)} {tops : List Nat} (h : Mx w0 w Z q mb dv fv tv hv ov rs tops [] []) : DoneF w0 w fv tv rs tops :=
  ⟨h.far, h.row, by have := h.kin; simpa [kinsO] using this, fun x hx => (h.rd.nam x hx).more (fun b hb => by cases hb)⟩
theorem DoneF.to {w0 w w1 : World} {fv tv : Value} {rs : List (Fm × Value × Value)} {tops : List Nat} (h : DoneF w0 w fv tv rs tops) (f : MM.Far [] w w1) : DoneF w0 w1 fv tv rs tops :=
  ⟨h.far.trans f (by simp), MM.own_far h.row f (by simp), h.kin.far f (by simp), fun x hx => (h.nam x hx).far f (by simp)⟩
theorem DoneF.from {w0 w1 w : World} {fv tv : Value} {rs : List (Fm × Value × Value)} {tops : List Nat} (h : DoneF w1 w fv tv rs tops) (f : MM.Far [] w0 w1) : DoneF w0 w fv tv rs tops :=
  ⟨f.trans h.far (by simp), h.row.mono f.size, ⟨fun k hk => (h.kin.each k hk).mono f.size, h.kin.apart⟩, h.nam⟩
theorem Lie.to {w0 w1 : World} {DA : Option Addr} {n : Nat} {ns : List Nd} (L : Lie w0 DA n ns) (f : MM.Far [] w0 w1) : Lie w1 DA n ns := ⟨L.nd.far f, L.len, L.str, L.ok, L.few⟩
/-- The work that there is for data by themselves. -/
def wtt (ns : List Nd) (l : List Nat) : Nat := (l.map fun i => wt ns (.top i)).sum
/-- At the head of the loop. -/
def TopI (w : World) (q : Nat) (dv : Value) (ns : List Nd) (l : List Nat) (R : Except Int (List Fm × List Nat)) (k : Nat) (wr : World) : Prop :=
  ∃ Z mb fv tv ov rs tops B0, Mx w wr Z q mb dv fv tv ov ov rs tops [] [] ∧ runTops ns (16 * ns.length) (l.drop k) (rs.map (·.1)) tops = R ∧ Few B0 (rs.map (·.1)) tops [] ∧ B0 + wtt ns (l.drop k) ≤ 100000
set_option maxRecDepth 20000 in
set_option maxHeartbeats 4000000 in
theorem expandF_any {w : World} {DA TA : Option Addr} {n c tn tc : Nat} {ns : List Nd} {zs : List Int} (L : Lie w DA n ns) (hMay : Calls Tryz.prog 15 #[.slice DA n c] w fun e w' => e = .returned (.bool true) ∧ MM.Far [] w w')
    (hT : Sl w [] (.slice TA tn tc) (zs.map num)) (hzl : zs.length = tn) (htn : tn ≤ 100000) (hin : inRange n zs = true) (hW : wtt ns (zs.map Int.toNat) ≤ 100000) (hf : ∀ i ∈ zs.map Int.toNat, wt ns (.top i) ≤ 16 * ns.length) :
    Calls Tryz.prog 6 #[.slice DA n c, .slice TA tn tc] w (ExpQ w (EX.expand ns (zs.map Int.toNat))) := by
  have HT := Lib.hid hT
  have HZL := Lib.hid hzl
  have HL := Lib.hid L
  have HIN := Lib.hid hin
  have HW := Lib.hid hW
  have HFF := Lib.hid hf
  have HMAY := Lib.hid hMay
  have HAR := Lib.hid (fun (w1 : World) (f : MM.Far [] w w1) => areIdx_any w1 (hT.far f (by simp)) hzl htn (n : Int))
  rw [hin] at HAR
  obtain ⟨R, hR⟩ : ∃ R, EX.expand ns (zs.map Int.toNat) = R := ⟨_, rfl⟩
  rw [hR]
  have HR := Lib.hid hR
  clear hT hzl L hin hW hf hMay hR
  unfold num at *
  go_enter Tryz.func6, Tryz.ntmps6
  go_wp2_with (first
    | (go_at_call 15; (with_reducible refine HMAY.out.mono ?_); rintro e w1 ⟨rfl, hF1⟩; have HF1 := Lib.hid hF1; clear hF1)
    | (go_at_call 16; (with_reducible refine (HAR.out _ HF1.out).mono ?_); rintro e w2 ⟨rfl, hF2⟩; have HF2 := Lib.hid (HF1.out.trans hF2 (by simp)); have HNEW := Lib.hid (newExp_any w2 DA n c); clear hF2)
    | (go_at_call 17; (with_reducible refine HNEW.out.mono ?_); rintro e w3 ⟨q, mb, rfl, hM⟩; have HM := Lib.hid hM; clear hM))
  have HL2 := Lib.hid (HL.out.to HF2.out)
  have HT2 := Lib.hid (HT.out.far HF2.out (by simp))
  have H0 : Hid (TopI w2 q (.slice DA n c) ns (zs.map Int.toNat) R 0 w3) := Lib.hid ⟨[q], mb, _, _, _, [], [], 0, HM.out, HR.out, ⟨Nat.le_refl _, Nat.le_refl _, fun o ho => absurd ho (by simp)⟩, by rw [List.drop_zero]; have := HW.out; omega⟩
  clear HM HNEW HAR HMAY HF1 HT HL HR HW
  go_loopw [27] (fun i wr => ∃ k : Nat, k ≤ tn ∧ i = .int .i64 (k : Int) ∧ Hid (TopI w2 q (.slice DA n c) ns (zs.map Int.toNat) R k wr)) (fun i _ => tn - (intOf i).toNat)
  case atStart => exact ⟨0, by omega, rfl, H0⟩
  case round =>
    obtain ⟨k, hk, rfl, hH⟩ := hrel
    obtain ⟨Z, mb, fv, tv, ov, rs, tops, B0, hM, hRun, hFew, hB⟩ := hH.out
    have HM := Lib.hid hM
    have HRun := Lib.hid hRun
    have HFew := Lib.hid hFew
    have HB := Lib.hid hB
    have q2 := hM.head.at (i := 2) rfl
    have q3 := hM.head.at (i := 3) rfl
    clear hH hM hRun hFew hB H0
    by_cases hlt : k < tn
    · have hk2 : k < zs.length := by rw [HZL.out]; exact hlt
      obtain ⟨A', c', e, hc1, hc2, hc3⟩ := HT2.out.far HM.out.far (by simp)
      injection e with e1 e2 e3
      subst e1 e3
      obtain ⟨g, o, rfl, hz, hg, cc⟩ := hc3 k (.int .i64 zs[k]) (by rw [List.getElem?_map, List.getElem?_eq_getElem hk2]; rfl)
      have hzr : 0 ≤ zs[k] ∧ zs[k] < (n : Int) := of_decide_eq_true (List.all_eq_true.1 HIN.out zs[k] (List.getElem_mem hk2))
      obtain ⟨i, hi⟩ : ∃ i, zs[k].toNat = i := ⟨_, rfl⟩
      have hzi : zs[k] = (i : Int) := by omega
      have hdrop : (zs.map Int.toNat).drop k = i :: (zs.map Int.toNat).drop (k + 1) := by
        rw [List.drop_eq_getElem_cons (by rw [List.length_map]; exact hk2), List.getElem_map, hi]
      rw [hzi] at cc
      have hrun := HRun.out
      have hwt := HB.out
      rw [hdrop] at hrun hwt
      have hwi : wt ns (.top i) ≤ 16 * ns.length := HFF.out i (by rw [← hi]; exact List.mem_map_of_mem (List.getElem_mem hk2))
      have hwt2 : B0 + wt ns (.top i) + wtt ns ((zs.map Int.toNat).drop (k + 1)) ≤ 100000 := by
        unfold wtt at hwt ⊢
        rw [List.map_cons, List.sum_cons] at hwt
        omega
      have HX := Lib.hid (expand_any (B := B0 + wt ns (.top i)) (by omega) HL2.out HM.out (show i < n by omega) (top_go HL2.out.ok hwi (rs.map (·.1)) tops) (Nat.le_refl _) HFew.out)
      unfold runTops at hrun
      cases hr : run ns (16 * ns.length) (.top i) (rs.map (·.1)) with
      | error a =>
        rw [hr] at hrun HX
        have HRE : Hid (R = .error a) := Lib.hid hrun.symm
        clear hr hrun hwt hwi hdrop hzi hi hzr hk2 e2 hc1 hc2 hc3 hz hg
        unfold num at HX
        go_wp2_with (first
          | (go_at_call 18; (with_reducible refine HX.out.mono ?_); rintro e w4 hXQ; obtain ⟨rfl, hF4⟩ : e = .returned (.tuple #[.int .i64 a, .int .i64 80]) ∧ MM.Far Z wr w4 := hXQ; have HF4 := Lib.hid (HM.out.far.trans hF4 (fun b hb hl => by have := HM.out.low b hb; omega)); clear hF4))
        refine bodyPost_ret (v := .tuple #[.slice none 0 0, .slice none 0 0, .int .i64 a, .int .i64 80]) (by simp [results, Tryz.results6, go_sem]) rfl ?_
        rw [HRE.out]
        exact ⟨rfl, HF2.out.trans HF4.out (by simp)⟩
      | ok r =>
        obtain ⟨row', k'⟩ := r
        rw [hr] at hrun HX
        have HRE := Lib.hid hrun
        clear hr hrun hwt hwi hdrop hzi hi hzr hk2 e2 hc1 hc2 hc3 hz hg
        unfold num at HX
        go_wp2_with (first
          | (go_at_call 18; (with_reducible refine HX.out.mono ?_); rintro e w4 hXQ; obtain ⟨rfl, hF4, Z4, fv4, tv4, ov4, rs4, os4, hz4, hM4, hr4, hf4, rfl⟩ := hXQ; have HM4 := Lib.hid hM4; have HR4 := Lib.hid hr4; have HF4 := Lib.hid hf4; clear hF4 hz4 hM4 hr4 hf4))
        go_roundw
        case rel => exact ⟨k + 1, by omega, by go_num, Lib.hid ⟨Z4, mb, fv4, tv4, ov4, rs4, tops ++ [k'], B0 + wt ns (.top i), HM4.out, by rw [HR4.out]; exact HRE.out, by rw [HR4.out]; exact HF4.out, hwt2⟩⟩
        case measure => simp [intOf]; omega
    · obtain rfl : k = tn := by omega
      have hrun := HRun.out
      rw [List.drop_eq_nil_of_le (by rw [List.length_map, HZL.out]; exact Nat.le_refl _)] at hrun
      have HRE : Hid (.ok (rs.map (·.1), tops) = R) := Lib.hid hrun
      have HDN := Lib.hid HM.out.done
      clear hrun
      go_wp2
      go_quiet (fail)
      go_wp2
      refine bodyPost_ret (v := .tuple #[fv, tv, .int .i64 0, .int .i64 0]) (by simp [results, Tryz.results6, go_sem]) rfl ?_
      rw [← HRE.out]
      exact ⟨fv, tv, rs, rfl, (HDN.out.from HF2.out).to ((MM.Far.refl [] wr).drewN nq), rfl⟩
end EW
end Go.Proofs.YtaghlpolljaedaaGreat
