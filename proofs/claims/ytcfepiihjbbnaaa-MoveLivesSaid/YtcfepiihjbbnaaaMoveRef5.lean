/-
  Contract of the document's Reach. Condition: its arena is as the list of things says, the words lie in 64 bits.
-/
import Derived.Test.YtcfepiihjbbnaaaMoveRef4
import Derived.Test.YtcfepiihjbbnaaaMoveVis
namespace Go.Proofs.Ytcfepiihjbbnaaa
open Go.RowKit
namespace MW
open AW AP RP RW
theorem bool_info : (Try.prog.info? 4).map (fun i => (i.zero, i.size, i.bytes)) = some (some (.bool false), 1, 1) := by kernel_rfl
theorem bools_slice : Try.prog.underlying 69 = some (.slice 4) := by kernel_rfl
/-- A row that is cut at its end. -/
theorem own_pop {w : World} {base : Nat} {e : TypeId} {g m c : Nat} {xs : List Value} {x : Value} (h : w.ownsRow base e 1 (.slice (some ⟨g, 0, none⟩) (m + 1) c) (m + 1) (xs ++ [x])) : w.ownsRow base e 1 (.slice (some ⟨g, 0, none⟩) m c) m xs := by
  obtain ⟨h1, h2⟩ := h
  have hl : xs.length = m := by simpa using h1
  refine ⟨by omega, ?_⟩
  rcases h2 with ⟨h2, _⟩ | ⟨g', cap, cur, hv, hb, hg, hn, hm, hs, ht⟩
  · cases h2
  · injection hv with ha _ hcap
    injection ha with ha
    injection ha with hgg
    subst hgg
    subst hcap
    refine .inr ⟨_, c, cur, rfl, hb, hg, by omega, hm, hs, ?_⟩
    have := congrArg (List.take m) ht
    rw [List.take_take, Nat.min_eq_left (by omega), List.take_left' hl] at this
    simpa using this
theorem _root_.Go.Proofs.Ytcfepiihjbbnaaa.RW.Rr.far_nil {w w' : World} {base q n : Nat} {v : Value} {ts : List Th} {hs : List Value} (h : Rr w base q n v ts hs) (f : MM.Far [] w w') : Rr w' base q n v ts hs := h.far (S := []) f (by simp)
def lenOf : Value → Nat
  | .slice _ n _ => n
  | _ => 0
/-- At a round's head. -/
structure Rch (w : World) (ba qa n : Nat) (va : Value) (ts : List Th) (ha : List Value) (roots : List Int) (sb : Nat) (wr : World) (vt : Value) (todo : List Int) (V : List Nat) : Prop where
  far : MM.Far [] w wr
  row : wr.ownsRow w.heap.size 42 1 vt todo.length (U64s todo)
  seen : MM.Row wr sb 4 (MP.seenL V ts.length)
  vis : MP.Vis ts roots V todo
  le : (sz ts - MP.wts ts V) + todo.length ≤ sz ts + roots.length
section
variable {w : World} {ba qa n : Nat} {va : Value} {ts : List Th} {ha : List Value}
set_option maxRecDepth 100000 in
set_option maxHeartbeats 4000000 in
theorem rreach_any (hR : Rr w ba qa n va ts ha) (roots : List Int) (A : Option Addr) (m c : Nat) (hm : roots.length = m) (hm4 : m ≤ 65536) (hnil : A = none → c = 0 ∧ m = 0) (hs : MM.Src w [] A (U64s roots)) (hu : ∀ x ∈ roots, WP.U x) :
    Calls Try.prog 12 #[ptr qa, .slice A m c] w fun e w' => e = .returned (.int .i64 (MP.reach ts roots)) ∧ MM.Far [] w w' := by
  subst hm
  have hN6 := things_le hR.ok
  have hsz := hR.ok.room
  have hn6 := hR.ok.size
  have a2 := hR.head.at (i := 2) rfl
  obtain ⟨A0, c0, e, _⟩ := MO.form hR.row
  rw [e] at a2
  obtain ⟨N, hN⟩ : ∃ N, ts.length = N := ⟨_, rfl⟩
  rw [hN] at a2 hN6
  have hm1 := run_make_row' (P := Try.prog) 69 4 (.bool false) 1 bools_slice bool_info rfl .i64 .i64 N (by omega) (by omega)
  have HN := Lib.hid hN
  have HS := Lib.hid hs
  have HU := Lib.hid hu
  have HR := Lib.hid hR
  have HE := Lib.hid e
  have HNil := Lib.hid hnil
  have hE0 := AL.empty_row (w.alloc (.cells (madeCells #[.bool false] N) 4)) w.heap.size (by simp)
  rw [World.size_alloc] at hE0
  have HE0 := Lib.hid hE0
  clear hR hs hu hN e hnil hE0
  go_enter Try.func12, Try.ntmps12
  go_wp2_with (first
    | (at_builtin
       refine MO.wpList_append _ ?_ (.tmp 16) (.tmp 17) 23 ?_ w.heap.size 42 (.int .u64 0) 1 8 words_slice word_info rfl (by omega) _ 0 [] ?_ HE0.out A roots.length c (U64s roots) ?_ (by simp [U64s]) ?_ [] ?_ (u64s_one roots) (by simp only [maxLen]; omega) (by omega) ?_ ?_
       · rfl
       · rfl
       · rfl
       · rfl
       · exact HNil.out
       · exact HS.out.far (((MM.Far.refl [] w).alloc _).alloc _) (by simp)
       · simp; omega
       intro v1 w1 hv1 hg1 hat1))
  have hF1 : MM.Far [] w w1 := (((MM.Far.refl [] w).alloc (.cells (madeCells #[.bool false] N) 4)).alloc (.cells #[] 42)).trans (MM.Far.of_grown (S := [w.heap.size + 1]) hg1 (fun b hb _ => by simp [Value.ownBlock] at hb ⊢; omega)) (fun b hb hl => by simp at hb; omega)
  have hs1 : MM.Row w1 w.heap.size 4 (MP.seenL [] ts.length) := by
    have h0 : MM.Row (w.alloc (.cells (madeCells #[.bool false] N) 4)) w.heap.size 4 (MP.seenL [] ts.length) := by
      rw [made_list, MP.seenL_nil, HN.out]
      exact MM.Row.new w 4 (List.replicate N (.bool false))
    exact (h0.alloc (.cells #[] 42)).of_block (hg1.block w.heap.size (by simp; omega) (by simp [Value.ownBlock]))
  have HST := Lib.hid (show ∃ todo V, Rch w ba qa n va ts ha roots w.heap.size w1 v1 todo V ∧ MP.wts ts V = 0 from ⟨roots, [], ⟨hF1, by simpa using hv1, hs1, MP.Vis.start HU.out, by simp [MP.wts]⟩, rfl⟩)
  have hb1 : ∃ A1 c1, v1 = .slice A1 roots.length c1 := by
    obtain ⟨A1, c1, e, _⟩ := MO.form hv1
    exact ⟨A1, c1, by rw [e, Nat.zero_add]⟩
  clear hF1 hs1 hv1 hg1 hat1 hm1
  go_loopw [6, 7] (fun s6 s7 wr => ∃ todo V, s7 = .int .i64 (MP.wts ts V : Nat) ∧ Hid (Rch w ba qa n va ts ha roots w.heap.size wr s6 todo V)) (fun s6 s7 _ => (sz ts - (intOf s7).toNat) + lenOf s6)
  case atStart =>
    obtain ⟨todo, V, h1, h2⟩ := HST.out
    exact ⟨todo, V, by rw [h2]; rfl, Lib.hid h1⟩
  case round =>
    obtain ⟨todo, V, rfl, hO⟩ := hrel
    have hFr := hO.out.far
    have hle := hO.out.le
    have hVle := hO.out.vis.le
    have h2 := (HR.out.far_nil hFr).head.at (i := 2) rfl
    rw [HE.out, HN.out] at h2
    rcases List.eq_nil_or_concat todo with rfl | ⟨t, x, rfl⟩
    · have hsum := hO.out.vis.sum HR.out.ok
      obtain ⟨A6, c6, e6, _⟩ := MO.form hO.out.row
      rw [e6]
      have HFr := Lib.hid hFr
      have HSm := Lib.hid hsum
      clear hO hFr hsum e6 h2
      go_wp2_with (fail)
      go_ret
      exact ⟨by rw [HSm.out]; rfl, HFr.out⟩
    · rw [List.concat_eq_append] at *
      have hrow := hO.out.row
      have hl : (t ++ [x]).length = t.length + 1 := by simp
      rw [hl] at hrow hle
      obtain ⟨A6, c6, e6, _, hc6, hc6m, _, hA6⟩ := MO.form hrow
      rcases hA6 with ⟨_, h0, _⟩ | ⟨g6, rfl, hg6, hg6l⟩
      · omega
      unfold maxLen at hc6m
      obtain ⟨m, hm⟩ : ∃ m, t.length = m := ⟨_, rfl⟩
      rw [hm] at hrow hle e6 hc6
      subst e6
      have cx : wr.cell? ⟨g6, m, none⟩ = some (.int .u64 x) := by
        rw [hrow.cellAt m (by omega)]
        simp [U64s, ← hm]
      have hpop : wr.ownsRow w.heap.size 42 1 (.slice (some ⟨g6, 0, none⟩) m c6) m (U64s t) := own_pop (x := .int .u64 x) (by simpa [U64s] using hrow)
      have hxm : x ∈ t ++ [x] := by simp
      have hux := (hO.out.vis.tds x hxm).1
      have hf1 : ∀ y ∈ t ++ [x], y = x ∨ y ∈ t := by intro y hy; rcases List.mem_append.1 hy with h | h; exact .inr h; exact .inl (by simpa using h)
      have hf2 : ∀ y ∈ t, y ∈ t ++ [x] := fun y hy => by simp [hy]
      have HFind := Lib.hid (rfind_any (HR.out.far_nil hFr) x hux)
      have hseen := hO.out.seen
      rw [HN.out] at hseen
      have HM := Lib.hid hm
      have HPop := Lib.hid hpop
      have HVis := Lib.hid hO.out.vis
      have HFr := Lib.hid hFr
      clear hO hFr hrow hux hpop hm
      cases hk : AW.look ts x with
      | none =>
        have HNx := Lib.hid (show Rch w ba qa n va ts ha roots w.heap.size wr (.slice (some ⟨g6, 0, none⟩) m c6) t V from ⟨HFr.out, by rw [HM.out]; exact HPop.out, by rw [HN.out]; exact hseen, HVis.out.skip hf1 hf2 (fun i hi => by rw [hk] at hi; cases hi), by rw [HM.out]; omega⟩)
        rw [ridx_none hk] at HFind
        clear hk hseen hf1 hf2 hxm
        go_wp2_with (go_at_call 27; refine HFind.out.mono ?_; rintro e w' ⟨rfl, rfl⟩)
        go_roundw
        case rel => exact ⟨t, V, rfl, HNx⟩
        case measure => simp [intOf, lenOf]
      | some i =>
        have hil := MP.look_lt hk
        have hiN : i < N := by rw [← HN.out]; exact hil
        rw [ridx_some hk] at HFind
        have cs : wr.cell? ⟨w.heap.size, i, none⟩ = some (.bool (decide (i ∈ V))) := hseen.at (MP.seenL_at V N i hiN)
        have fs := hseen.frozen i
        by_cases hV : i ∈ V
        · have HNx := Lib.hid (show Rch w ba qa n va ts ha roots w.heap.size wr (.slice (some ⟨g6, 0, none⟩) m c6) t V from ⟨HFr.out, by rw [HM.out]; exact HPop.out, by rw [HN.out]; exact hseen, HVis.out.skip hf1 hf2 (fun j hj => by rw [hk] at hj; cases hj; exact hV), by rw [HM.out]; omega⟩)
          rw [show decide (i ∈ V) = true from by simpa using hV] at cs
          clear hk hseen hf1 hf2 hxm hV fs
          go_wp2_with (go_at_call 27; refine HFind.out.mono ?_; rintro e w' ⟨rfl, rfl⟩)
          go_roundw
          case rel => exact ⟨t, V, rfl, HNx⟩
          case measure => simp [intOf, lenOf]
        · rw [show decide (i ∈ V) = false from by simpa using hV] at cs
          obtain ⟨g, c', A, d, e, hg1, hg2, cell0, cell1, cell2, hhd, hkid, hA'⟩ := (HR.out.far_nil HFr.out).at hil
          have ee := HE.out.symm.trans e
          injection ee with ee _ ec
          subst ee
          subst ec
          obtain ⟨L, hL⟩ : ∃ L, (th ts i).l.length = L := ⟨_, rfl⟩
          have hL255 : L ≤ 255 := by rw [← hL]; exact (HR.out.ok.each i hil).2.2.1
          rw [hL] at cell2 hkid
          have hF2 := (MM.Far.refl [w.heap.size] wr).setCell (p := ⟨w.heap.size, i, none⟩) (by simp) (.bool true)
          have hgl : g < w.heap.size := by
            obtain ⟨gx, _, _, _, ex, _, hgx, _⟩ := HR.out.at hil
            have := ex.symm.trans e
            injection this with h1
            injection h1 with h1
            injection h1 with h1
            omega
          have hql := HR.out.head.lt
          have p2 := (hF2.cell (p := ⟨qa, 2, none⟩) (by have := HFr.out.size; simp; omega) (by simp; omega)).trans h2
          have p3 := (hF2.cell (p := ⟨g, i * 3 + 2, none⟩) hg2 (by simp; omega)).trans cell2
          have hpop2 := MM.own_far HPop.out hF2 (fun b hb hm => by simp at hm; subst hm; exact MM.own_row_ne HPop.out hseen (by decide) hb)
          have hkid2 := MM.own_far hkid hF2 (fun b hb hm => by simp at hm; subst hm; exact MM.own_row_ne hkid hseen (by decide) hb)
          obtain ⟨A9, d9, e9, hnil9, hd9, hdm9, hsrc9, _⟩ := MO.form hkid2
          injection e9 with e9a _ e9b
          subst e9a
          subst e9b
          have hseen2 := hseen.put i (.bool true)
          rw [MP.seenL_set V N i hiN] at hseen2
          have hF3 := HFr.out.trans hF2 (by simp)
          have hwt : MP.wts ts (V ++ [i]) = MP.wts ts V + (L + 1) := by rw [MP.wts_one, hL]
          have hvis2 := HVis.out.visit HR.out.ok hxm hk hV (todo' := t ++ (th ts i).l) (fun y hy => by rcases hf1 y hy with h | h; exact .inl h; exact .inr (by simp [h])) (fun y hy => by rcases List.mem_append.1 hy with h | h; exact .inl (hf2 y h); exact .inr h) (fun y hy => by simp [hy])
          have hvle2 := hvis2.le
          have hsz2 : L + 1 ≤ sz ts - MP.wts ts V := Nat.le_sub_of_add_le (by rw [Nat.add_comm, ← hwt]; exact hvle2)
          have HSrc := Lib.hid (hsrc9 [] (by simp))
          have HPop2 := Lib.hid hpop2
          have HSeen2 := Lib.hid hseen2
          have HF3 := Lib.hid hF3
          have HVis2 := Lib.hid hvis2
          have HWt := Lib.hid hwt
          have HL := Lib.hid hL
          have HNl := Lib.hid hnil9
          obtain ⟨W2, hW2⟩ : ∃ W2, W2 = MP.wts ts V := ⟨_, rfl⟩
          rw [← hW2] at hle hVle hsz2 ⊢
          have HW2 := Lib.hid hW2
          clear hk hf1 hf2 hxm hV hseen h2 cell0 cell1 cell2 hhd hkid hA' e hpop2 hkid2 hsrc9 hseen2 hF3 hvis2 hwt hL hF2 hnil9 hvle2 hW2
          go_wp2_with (first
            | (go_at_call 27; refine HFind.out.mono ?_; rintro e w' ⟨rfl, rfl⟩)
            | (at_builtin
               refine MO.wpList_append _ ?_ (.tmp 59) (.tmp 67) 23 ?_ w.heap.size 42 (.int .u64 0) 1 8 words_slice word_info rfl (by omega) _ m (U64s t) ?_ HPop2.out A L d (U64s (th ts i).l) ?_ ?_ ?_ [] HSrc.out (u64s_one _) ?_ ?_ ?_ ?_
               · rfl
               · rfl
               · rfl
               · rfl
               · simp [U64s, HL.out]
               · intro e; have := HNl.out e; omega
               · simp only [maxLen]; omega
               · omega
               · exact HF3.out.size
               intro v9 w9 hv9 hg9 hat9))
          have hF9 := HF3.out.trans (MM.Far.of_grown (S := [g6]) hg9 (fun b hb _ => by simpa [Value.ownBlock, eq_comm] using hb)) (fun b hb hl => by simp at hb; omega)
          have hne6 : w.heap.size ≠ g6 := fun e => MM.own_row_ne HPop2.out HSeen2.out (by decide) (by rw [e]; rfl)
          have hseen9 : MM.Row w9 w.heap.size 4 (MP.seenL (V ++ [i]) N) := HSeen2.out.of_block (hg9.block w.heap.size HSeen2.out.lt (fun e => hne6 (by simpa [Value.ownBlock] using e)))
          have hEnd : Rch w ba qa n va ts ha roots w.heap.size w9 v9 (t ++ (th ts i).l) (V ++ [i]) := by
            refine ⟨hF9, ?_, by rw [HN.out]; exact hseen9, HVis2.out, ?_⟩
            · have e1 : (t ++ (th ts i).l).length = m + L := by rw [List.length_append, HM.out, HL.out]
              rw [e1]
              have e2 : U64s (t ++ (th ts i).l) = U64s t ++ U64s (th ts i).l := by simp [U64s]
              rw [e2]; exact hv9
            · rw [HWt.out, List.length_append, HM.out, HL.out, ← HW2.out]; omega
          have HEnd := Lib.hid hEnd
          obtain ⟨A10, c10, e10, _⟩ := MO.form hv9
          have HE10 := Lib.hid e10
          clear hF9 hseen9 hEnd e10
          go_roundw
          case rel => exact ⟨_, _, by rw [HWt.out, ← HW2.out]; go_num, HEnd⟩
          case measure =>
            rw [HE10.out]
            simp [intOf, lenOf]
            omega
end
end MW
end Go.Proofs.Ytcfepiihjbbnaaa
