/-
  Contract of layer 9's statements' of: a text's forms, resolved, and the names then. Conditions: the text has 1,000 bytes at most; the primitives' table.
-/
import Derived.Test.YtedbaegdmianaaaDoorQScoS5
import Derived.Test.YtedbaegdmianaaaDoorQScoNmP
namespace Go.Proofs.YtedbaegdmianaaaDoor
open Go.RowKit
set_option linter.unusedVariables false
namespace SM
open LX SX RW6 EX SC
open EW (Sl Bx ptr num strs NdR)
open RX (Nd)
open RM6 (Kin)
def OfQ (w : World) : Fin → Ending → World → Prop
  | .error x, e, w' => ∃ g, e = .returned (.tuple #[.slice none 0 0, .slice none 0 0, num x.1, .int .i64 x.2.1, ptr g]) ∧ MM.Far [] w w' ∧ NmAt w w' g x.2.2 ∧ w.heap.size ≤ g
  | .ok r, e, w' => ∃ fv tv rs g, e = .returned (.tuple #[fv, tv, .int .i64 0, .int .i64 0, ptr g]) ∧ MM.Far [] w w' ∧ NmAt w w' g r.1 ∧ w.heap.size ≤ g ∧ rs.map (·.1) = r.2.1 ∧ w'.ownsRow w.heap.size 33 8 fv rs.length (rfC rs) ∧ Kin w' w.heap.size ((tv, r.2.2) :: kinsR rs)
theorem NmAt.wide {w w1 w' : World} {g : Nat} {N : List ByteArray} (h : NmAt w1 w' g N) (hs : w.heap.size ≤ w1.heap.size) : NmAt w w' g N := by
  obtain ⟨S, mv, sv, h1, h2⟩ := h
  exact ⟨S, mv, sv, h1, fun b hb => (h2 b hb).imp id (fun h => by omega)⟩
theorem kin_low {w : World} {b b' : Nat} {ks : List (Value × List Nat)} (h : Kin w b ks) (hb : b' ≤ b) : Kin w b' ks := ⟨fun k hk => (h.each k hk).mono hb, h.apart⟩
theorem far_gg {w w1 w2 w3 : World} {g : Nat} (f : MM.Far [] w w1) (f2 : MM.Far [] w1 w2) (hg : w1.heap.size ≤ g) (k : MM.Far [g] w2 w3) : MM.Far [] w w3 :=
  (f.trans f2 (by simp)).trans k (fun b hb hl => by have := f.size; simp at hb; omega)
section
variable {w0 w : World} {g : Nat}
theorem scope_empty {FA T : Option Addr} {fc tc : Nat} (h : PT w0) (f : MM.Far [] w0 w) (hN : NW.Nm w g [g] [] (.map none) (.slice none 0 0)) (hg : w0.heap.size ≤ g) : Calls Tryd.prog 17 #[.slice none 0 0, .slice FA 0 fc, .slice T 0 tc, ptr g] w (ScpQ w0 w g (.ok ([], [], []))) := by
  have hNd : NdR w0 none [] := fun k hk => by simp at hk
  have hFm : FmS w0 FA [] := fun k hk => by simp at hk
  have L : Lz w0 ⟨.slice none 0 0, .slice FA 0 fc, .nilFunc, .nilFunc, .nilFunc, .nilFunc⟩ (cx [] []) [] := ⟨gd_none, h, ⟨none, 0, rfl, hNd⟩, ⟨FA, fc, rfl, hFm⟩, fun i => by simp [cx, ndAt]; exact Nat.zero_le _, fun i => by simp [cx, fmAt, fm0]⟩
  exact scope_any L rfl rfl rfl rfl rfl hNd hFm rfl (fms_nil 0) (fun k u hu => by simp [ints] at hu) f hN hg (by simp) (by simp) (by simp) (fun x hx => by cases hx) (fun x hx => by cases hx) (by simp)
theorem scope_bare {s : ByteArray} {r : RX.Rd} {DA FA T : Option Addr} {n dc fc tc : Nat} (hR : RX.read s = .ok r) (hs : s.size ≤ 1000) (hn : r.row.length = n) (hNd : NdR w0 DA r.row) (h : PT w0) (f : MM.Far [] w0 w) (hN : NW.Nm w g [g] [] (.map none) (.slice none 0 0)) (hg : w0.heap.size ≤ g) : Calls Tryd.prog 17 #[.slice DA n dc, .slice FA 0 fc, .slice T 0 tc, ptr g] w (ScpQ w0 w g (.ok ([], [], []))) := by
  have hsz := RX.read_sizes hR
  have hFm : FmS w0 FA [] := fun k hk => by simp at hk
  have L : Lz w0 ⟨.slice DA n dc, .slice FA 0 fc, .nilFunc, .nilFunc, .nilFunc, .nilFunc⟩ (cx r.row []) (r.row.map (·.s)) := ⟨gd_nil hR hs, h, ⟨DA, dc, by rw [show (cx r.row []).ns.length = n from hn], hNd⟩, ⟨FA, fc, rfl, hFm⟩, fun i => by
    show (ndAt r.row i).l.length ≤ 100000
    by_cases hi : i < r.row.length
    · rw [nd_in hi]
      have := hsz.2.2 _ (List.getElem_mem hi); omega
    · rw [nd_out hi]; exact Nat.zero_le _, fun i => by simp [cx, fmAt, fm0]⟩
  exact scope_any L rfl rfl hn rfl rfl hNd hFm (RX.read_may hR) (fms_nil n) (fun k u hu => by simp [ints] at hu) f hN hg (by omega) (by simp) (by simp) (fun x hx => by have := hsz.2.2 x hx; omega) (fun x hx => by cases hx) (by simp)
theorem scope_text {s : ByteArray} {r : RX.Rd} {fs : List Fm} {ts : List Nat} {DA FA T : Option Addr} {n m tn dc fc tc : Nat} (hR : RX.read s = .ok r) (hE : EX.expand r.row r.tops = .ok (fs, ts)) (hs : s.size ≤ 1000) (hn : r.row.length = n) (hm : fs.length = m) (htn : ts.length = tn) (hNd : NdR w0 DA r.row) (hFm : FmS w0 FA fs) (hT : IntRow w0 T ts) (h : PT w0) (f : MM.Far [] w0 w)
    (hN : NW.Nm w g [g] [] (.map none) (.slice none 0 0)) (hg : w0.heap.size ≤ g) : Calls Tryd.prog 17 #[.slice DA n dc, .slice FA m fc, .slice T tn tc, ptr g] w (ScpQ w0 w g (SC.scope r.row fs ts)) := by
  have hsz := RX.read_sizes hR
  have hF := forms_of hR hE
  have hsm := fms_small (fms_of hR hE)
  have hlen := hF.len
  have htl := hF.tlen
  have hll : ∀ x ∈ fs, x.l.length ≤ 100000 := fun x hx => by have := hsm x hx; omega
  have L : Lz w0 ⟨.slice DA n dc, .slice FA m fc, .nilFunc, .nilFunc, .nilFunc, .nilFunc⟩ (cx r.row fs) (r.row.map (·.s)) := ⟨gd_of hR hE hs, h, ⟨DA, dc, by rw [show (cx r.row fs).ns.length = n from hn], hNd⟩, ⟨FA, fc, by rw [show (cx r.row fs).fs.length = m from hm], hFm⟩, fun i => by
    show (ndAt r.row i).l.length ≤ 100000
    by_cases hi : i < r.row.length
    · rw [nd_in hi]
      have := hsz.2.2 _ (List.getElem_mem hi); omega
    · rw [nd_out hi]; exact Nat.zero_le _, fun i => by
    show (fmAt fs i).l.length ≤ 100000
    by_cases hi : i < fs.length
    · rw [fm_in hi]; exact hll _ (List.getElem_mem hi)
    · rw [fm_out hi]; exact Nat.zero_le _⟩
  exact scope_any L rfl rfl hn hm htn hNd hFm (RX.read_may hR) (hn ▸ fms_of hR hE) (rd_int hT) f hN hg (by omega) (by omega) (by omega) (fun x hx => by have := hsz.2.2 x hx; omega) hll (Nat.le_trans (tops_F hR hE hs) (by omega))
end
theorem of_fin {w w2 w3 w' : World} {g : Nat} {N : List ByteArray} (f1 : MM.Far [] w w2) (f2 : MM.Far [] w2 w3) (hg : w2.heap.size ≤ g) (k : MM.Far [g] w3 w') (hN : NmAt w3 w' g N) : MM.Far [] w w' ∧ NmAt w w' g N ∧ w.heap.size ≤ g := by
  have h1 := f1.size
  have h2 := f2.size
  exact ⟨far_gg f1 f2 hg k, hN.wide (by omega), by omega⟩
set_option maxHeartbeats 2000000 in
set_option maxRecDepth 20000 in
theorem of_any (s : ByteArray) (hs : s.size ≤ 1000) (w : World) (hPT : PT w) : Calls Tryd.prog 9 #[.string s] w (OfQ w (ofS s)) := by
  have HR := Lib.hid (RM6.rread_any s (by omega) w)
  have HPT := Lib.hid hPT
  unfold ofS
  clear hPT
  cases hR : RX.read s with
  | error px =>
    obtain ⟨p, x⟩ := px
    rw [hR] at HR
    clear hR
    show Calls _ _ _ _ (OfQ w (.ok ([], [], [])))
    go_enter Tryd.func9, Tryd.ntmps9
    go_wp2_with (first
      | (go_at_call 14; (with_reducible refine HR.out.mono ?_); rintro e w1 hQ; obtain ⟨rfl, hF1⟩ : e = .returned (.tuple #[.slice none 0 0, .slice none 0 0, .int .i64 p, .int .i64 x]) ∧ MM.Far [] w w1 := hQ; have HF1 := Lib.hid hF1; clear hF1)
      | (go_at_call 15; (with_reducible refine (EW.dnilS_any _).mono ?_); rintro e w2 ⟨A2, c2, T2, d2, rfl, hFm2, hT2, hF2⟩; have HF2 := Lib.hid (HF1.out.trans hF2 (by simp)); clear hFm2 hT2 hF2)
      | (go_at_call 16; (with_reducible refine (NW.new_any _).mono ?_); rintro e w3 ⟨g, rfl, hg3, hN3, hF3⟩; have HN3 := Lib.hid hN3; have HF3 := Lib.hid hF3; have HG3 := Lib.hid hg3; clear hN3 hF3 hg3))
    go_wp2_with (first
      | (go_at_call 17; (with_reducible refine (scope_empty (HPT.out.far HF2.out) HF3.out HN3.out HG3.out).mono ?_); rintro e w4 ⟨fv, tv, rs, rfl, hF4, hN4, hrs4, hrow4, hk4⟩; have HF4 := Lib.hid hF4; have HN4 := Lib.hid hN4; have HRS4 := Lib.hid hrs4; have HRow4 := Lib.hid hrow4; have HK4 := Lib.hid hk4; clear hF4 hN4 hrs4 hrow4 hk4))
    refine bodyPost_ret (v := .tuple #[fv, tv, .int .i64 0, .int .i64 0, .pointer (some ⟨g, 0, none⟩)]) (by simp [results, Tryd.results9, go_sem]) rfl ?_
    obtain ⟨g1, g2, g3⟩ := of_fin HF2.out HF3.out HG3.out HF4.out HN4.out
    exact ⟨fv, tv, rs, g, rfl, g1, g2, g3, HRS4.out, HRow4.out.mono HF2.out.size, kin_low HK4.out HF2.out.size⟩
  | ok r =>
    rw [hR] at HR
    have HRD := Lib.hid hR
    have HS := Lib.hid hs
    have HC := Lib.hid (fun (w1 : World) (rv tv : Value) (rs : List (Nd × Value)) (h : Done w w1 rv tv rs r.tops) (hrs : rs.map (·.1) = r.row) => EW.dcodeS_any hR h hrs (by have := read_len hR; omega) (MM.Far.refl [] w1))
    clear hR hs
    show Calls _ _ _ _ (OfQ w (match EX.expand r.row r.tops with | .error _ => .ok ([], [], []) | .ok x => scope r.row x.1 x.2))
    cases hX : EX.expand r.row r.tops with
    | error a =>
      rw [hX] at HC
      clear hX
      show Calls _ _ _ _ (OfQ w (.ok ([], [], [])))
      go_enter Tryd.func9, Tryd.ntmps9
      go_wp2_with (first
        | (go_at_call 14; (with_reducible refine HR.out.mono ?_); rintro e w1 ⟨rv, tv0, rs0, rfl, hD0, hrs0⟩; have HD0 := Lib.hid hD0; have HC1 := Lib.hid (HC.out _ _ _ _ hD0 hrs0); have HRS0 := Lib.hid hrs0; clear hD0 hrs0)
        | (go_at_call 15; (with_reducible refine HC1.out.mono ?_); rintro e w2 hQ2; obtain ⟨rfl, hF2⟩ : e = .returned (.tuple #[.slice none 0 0, .slice none 0 0, .int .i64 a, .int .i64 80]) ∧ MM.Far [] w1 w2 := hQ2; have HF12 := Lib.hid hF2; have HF2 := Lib.hid (HD0.out.far.trans hF2 (by simp)); clear hF2)
        | (go_at_call 16; (with_reducible refine (NW.new_any _).mono ?_); rintro e w3 ⟨g, rfl, hg3, hN3, hF3⟩; have HN3 := Lib.hid hN3; have HF3 := Lib.hid hF3; have HG3 := Lib.hid hg3; clear hN3 hF3 hg3))
      obtain ⟨DA, dc, rfl, hNd⟩ := EW.done_rows HD0.out
      rw [HRS0.out] at hNd
      have hn : r.row.length = rs0.length := by rw [← HRS0.out, List.length_map]
      have HNd := Lib.hid (hNd.far HF12.out)
      have HLn := Lib.hid hn
      clear hNd hn HC1
      go_wp2_with (first
        | (go_at_call 17; (with_reducible refine (scope_bare HRD.out HS.out HLn.out HNd.out (HPT.out.far HF2.out) HF3.out HN3.out HG3.out).mono ?_); rintro e w4 ⟨fv, tv, rs, rfl, hF4, hN4, hrs4, hrow4, hk4⟩; have HF4 := Lib.hid hF4; have HN4 := Lib.hid hN4; have HRS4 := Lib.hid hrs4; have HRow4 := Lib.hid hrow4; have HK4 := Lib.hid hk4; clear hF4 hN4 hrs4 hrow4 hk4))
      refine bodyPost_ret (v := .tuple #[fv, tv, .int .i64 0, .int .i64 0, .pointer (some ⟨g, 0, none⟩)]) (by simp [results, Tryd.results9, go_sem]) rfl ?_
      obtain ⟨g1, g2, g3⟩ := of_fin HF2.out HF3.out HG3.out HF4.out HN4.out
      exact ⟨fv, tv, rs, g, rfl, g1, g2, g3, HRS4.out, HRow4.out.mono HF2.out.size, kin_low HK4.out HF2.out.size⟩
    | ok x =>
      obtain ⟨fs, ts⟩ := x
      rw [hX] at HC
      have HEx := Lib.hid hX
      clear hX
      show Calls _ _ _ _ (OfQ w (scope r.row fs ts))
      go_enter Tryd.func9, Tryd.ntmps9
      go_wp2_with (first
        | (go_at_call 14; (with_reducible refine HR.out.mono ?_); rintro e w1 ⟨rv, tv0, rs0, rfl, hD0, hrs0⟩; have HD0 := Lib.hid hD0; have HC1 := Lib.hid (HC.out _ _ _ _ hD0 hrs0); have HRS0 := Lib.hid hrs0; clear hD0 hrs0)
        | (go_at_call 15; (with_reducible refine HC1.out.mono ?_); rintro e w2 ⟨FA, fc, T, tc, rfl, hFm, hT, hF2⟩; have HF12 := Lib.hid hF2; have HFm := Lib.hid hFm; have HT := Lib.hid hT; have HF2 := Lib.hid (HD0.out.far.trans hF2 (by simp)); clear hF2 hFm hT)
        | (go_at_call 16; (with_reducible refine (NW.new_any _).mono ?_); rintro e w3 ⟨g, rfl, hg3, hN3, hF3⟩; have HN3 := Lib.hid hN3; have HF3 := Lib.hid hF3; have HG3 := Lib.hid hg3; clear hN3 hF3 hg3))
      obtain ⟨DA, dc, rfl, hNd⟩ := EW.done_rows HD0.out
      rw [HRS0.out] at hNd
      have hn : r.row.length = rs0.length := by rw [← HRS0.out, List.length_map]
      have HNd := Lib.hid (hNd.far HF12.out)
      have HLn := Lib.hid hn
      clear hNd hn HC1
      have hScp := scope_text (dc := dc) (fc := fc) (tc := tc) HRD.out HEx.out HS.out HLn.out rfl rfl HNd.out HFm.out HT.out (HPT.out.far HF2.out) HF3.out HN3.out HG3.out
      cases hSc : scope r.row fs ts with
      | error y =>
        rw [hSc] at hScp
        have HScp := Lib.hid hScp
        have HSc := Lib.hid hSc
        clear hScp hSc
        go_wp2_with (first
          | (go_at_call 17; (with_reducible refine HScp.out.mono ?_); rintro e w4 ⟨rfl, hF4, hN4⟩; have HF4 := Lib.hid hF4; have HN4 := Lib.hid hN4; clear hF4 hN4))
        refine bodyPost_ret (v := .tuple #[.slice none 0 0, .slice none 0 0, num y.1, .int .i64 y.2.1, .pointer (some ⟨g, 0, none⟩)]) (by simp [results, Tryd.results9, go_sem]) rfl ?_
        obtain ⟨g1, g2, g3⟩ := of_fin HF2.out HF3.out HG3.out HF4.out HN4.out
        rw [HSc.out]
        exact ⟨g, rfl, g1, g2, g3⟩
      | ok y =>
        rw [hSc] at hScp
        have HScp := Lib.hid hScp
        have HSc := Lib.hid hSc
        clear hScp hSc
        go_wp2_with (first
          | (go_at_call 17; (with_reducible refine HScp.out.mono ?_); rintro e w4 ⟨fv, tv, rs, rfl, hF4, hN4, hrs4, hrow4, hk4⟩; have HF4 := Lib.hid hF4; have HN4 := Lib.hid hN4; have HRS4 := Lib.hid hrs4; have HRow4 := Lib.hid hrow4; have HK4 := Lib.hid hk4; clear hF4 hN4 hrs4 hrow4 hk4))
        refine bodyPost_ret (v := .tuple #[fv, tv, .int .i64 0, .int .i64 0, .pointer (some ⟨g, 0, none⟩)]) (by simp [results, Tryd.results9, go_sem]) rfl ?_
        obtain ⟨g1, g2, g3⟩ := of_fin HF2.out HF3.out HG3.out HF4.out HN4.out
        rw [HSc.out]
        exact ⟨fv, tv, rs, g, rfl, g1, g2, g3, HRS4.out, HRow4.out.mono HF2.out.size, kin_low HK4.out HF2.out.size⟩
end SM
end Go.Proofs.YtedbaegdmianaaaDoor
