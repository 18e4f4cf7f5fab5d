/-
  Contracts of the document's reader: close, put, whatever is open. Conditions: there are no more than 20000 data.
-/
import Derived.Test.YtkhcaejijlaohaaDoorReadPut
import Derived.Test.YtkhcaejijlaohaaDoorReadC1
import Derived.IntWalk
namespace Go.Proofs.YtkhcaejijlaohaaDoor
open Go.RowKit
namespace RM6
open LX RX RW6
section
variable {w0 w : World} {q : Nat} {rv tv ov : Value} {rs : List (Nd × Value)} {tops : List Nat} {os : List (Pt × Value)} {ex : List (Value × List Nat)}
theorem op_front {p : Pt} {hp : Value} {os1 : List (Pt × Value)} {og oc : Nat} (h : Rdr w0 w q rv tv (.slice (some ⟨og, 0, none⟩) (os1.length + 1) oc) rs tops ((p, hp) :: os1) ex) : w.ownsRow w0.heap.size 57 3 (.slice (some ⟨og, 0, none⟩) os1.length oc) os1.length (ptC os1.reverse) := by
  have := RC6.own_front (n := os1.length + 1) h.op os1.length (by omega)
  rw [List.reverse_cons, ptC_snoc, List.take_append_of_le_length (by rw [ptC_len, List.length_reverse]; omega), List.take_of_length_le (by rw [ptC_len, List.length_reverse]; omega)] at this
  exact this
theorem ptC_one (os : List (Pt × Value)) (h : ∀ z ∈ os, ∃ A c, z.2 = .slice A z.1.l.length c) : ∀ u ∈ ptC os, u.oneCell' = true := by
  intro u hu
  unfold ptC at hu
  obtain ⟨z, hz, hu⟩ := List.mem_flatMap.1 hu
  obtain ⟨A, c, e⟩ := h z hz
  simp only [List.mem_cons, List.not_mem_nil, or_false] at hu
  rcases hu with rfl | rfl | rfl
  · rfl
  · rfl
  · rw [e]; rfl
/-- Behind close's first region: a box of what was opened last. -/
def CutB (w : World) (p : Pt) (hp : Value) (tb : Nat) (wx : World) : Prop := MM.Far [] w wx ∧ MM.Row wx tb 57 [.int .i64 p.at_, .bool p.q, hp]
/-- Behind its second. -/
def CutN (w0 : World) (q : Nat) (rv tv : Value) (rs : List (Nd × Value)) (tops : List Nat) (p : Pt) (hp : Value) (os1 : List (Pt × Value)) (ex : List (Value × List Nat)) (tb : Nat) (wx : World) : Prop :=
  (∃ ov', Rdr w0 wx q rv tv ov' rs tops os1 ((hp, p.l) :: ex)) ∧ MM.Row wx tb 57 [.int .i64 p.at_, .bool p.q, hp]
set_option maxHeartbeats 4000000 in
set_option maxRecDepth 20000 in
theorem close_of {p : Pt} {hp : Value} {os1 : List (Pt × Value)} (h : Rdr w0 w q rv tv ov rs tops ((p, hp) :: os1) ex) (hn : rs.length + os1.length ≤ 20000)
    (HP : Hid (∀ w1 ov1 A c, hp = .slice A p.l.length c → Rdr w0 w1 q rv tv ov1 rs tops os1 ((.slice A p.l.length c, p.l) :: ex) →
      Calls Tryd.prog 36 #[.pointer (some ⟨q, 0, none⟩), .agg #[.int .u8 4, .int .i64 p.at_, .int .i64 0, .string emp, .slice A p.l.length c]] w1
        (PutP w0 q (putO (os1.map (·.1)) (rs.map (·.1)) tops ⟨4, p.at_, 0, emp, p.l⟩) ex))) :
    Calls Tryd.prog 37 #[.pointer (some ⟨q, 0, none⟩)] w (PutP w0 q (putO (os1.map (·.1)) (rs.map (·.1)) tops ⟨4, p.at_, 0, emp, p.l⟩) ex) := by
  obtain ⟨og, oc, rfl, cA, cQ, cL, hfz, hog, hog0⟩ := open_at h
  obtain ⟨hA, hc, rfl⟩ : ∃ A c, hp = .slice A p.l.length c := form_ w0 (h.kin.each (hp, p.l) (by simp [kinsP]))
  have c2 := h.head.at (i := 2) rfl
  have HR := Lib.hid h
  have hoc : os1.length + 1 ≤ oc ∧ oc ≤ maxLen := by
    obtain ⟨A, c, e, _, h1, h2, _⟩ := MO.form h.op
    injection e with _ _ e3
    subst e3
    exact ⟨h1, h2⟩
  obtain ⟨hc1, hc2⟩ := hoc
  have hoc0 : ¬ oc = 0 := by omega
  have hcI : (os1.length : Int) ≤ (oc : Int) := by omega
  have hcI2 : (0 : Int) ≤ (os1.length : Int) := by omega
  have hcI3 : (os1.length : Int) < (os1.length : Int) + 1 := by omega
  have hos : os1.length ≤ 20000 := by omega
  unfold maxLen at hc2
  have F1 : MM.Far [] w (w.alloc (.cells #[.int .i64 0, .bool false, .slice none 0 0] 57)) := (MM.Far.refl [] w).alloc _
  have c2a := (HR.out.to F1).head.at (i := 2) rfl
  have cAa := (F1.cell (p := ⟨og, os1.length * 3, none⟩) hog (by simp)).trans cA
  have cQa := (F1.cell (p := ⟨og, os1.length * 3 + 1, none⟩) hog (by simp)).trans cQ
  have cLa := (F1.cell (p := ⟨og, os1.length * 3 + 2, none⟩) hog (by simp)).trans cL
  clear h F1
  go_enter Tryd.func37, Tryd.ntmps37
  go_wp2
  go_cut [2] (fun s2 wx => ∃ tb, s2 = .pointer (some ⟨tb, 0, none⟩) ∧ CutB w p (.slice hA p.l.length hc) tb wx)
  case first =>
    go_region
    all_goals
      go_wp2_with fail
      go_meet
      exact ⟨w.heap.size, rfl, ((MM.Far.refl [] w).alloc _).drew, (MM.Row.new w 57 [.int .i64 p.at_, .bool p.q, .slice hA p.l.length hc]).drew⟩
  case rest =>
    obtain ⟨tb, rfl, hF, hB⟩ := hcut
    have HR1 := Lib.hid (HR.out.to hF)
    have HB := Lib.hid hB
    clear hF hB HR c2 c2a cAa cQa cLa cA cQ cL hfz
    have c2 := HR1.out.head.at (i := 2) rfl
    have f2 := HR1.out.head.frozen 2
    have c2a := (HR1.out.to ((MM.Far.refl [] wc).alloc (.cells #[] 57))).head.at (i := 2) rfl
    have HO := Lib.hid (op_front HR1.out)
    have HONE := Lib.hid (ptC_one os1.reverse (fun z hz => form_ w0 (HR1.out.kin.each (z.2, z.1.l) (by
      have : z ∈ os1 := List.mem_reverse.1 hz
      simp only [kinsP, List.map_cons, List.mem_cons, List.mem_append, List.mem_map]
      exact .inr (.inr (.inl (.inr ⟨z, this, rfl⟩)))))))
    have HSRC : Hid (MM.Src wc [] (some ⟨og, 0, none⟩) (ptC os1.reverse)) := Lib.hid (by
      obtain ⟨A, c, e, _, _, _, k3, _⟩ := MO.form HO.out
      injection e with e1 _ _
      rw [e1]
      exact k3 [] (by simp))
    have hbW := HR1.out.far.size
    have hwr : IntKind.i64.wrap ((os1.length : Nat) : Int) = (os1.length : Int) := IntWalk.i64_in _ (by omega)
    go_wp2
    go_cut [] (fun wx => CutN w0 q rv tv rs tops p (.slice hA p.l.length hc) os1 ex tb wx)
    case first =>
      go_region_law (
        refine MO.step_append ?_ (.tmp 16) (.tmp 27) 53 ?_ w0.heap.size 57 _ 3 40 parts_slice part_info rfl (by omega) (.slice (some ⟨wc.heap.size, 0, none⟩) 0 0) 0 [] ?_ ?_ (some ⟨og, 0, none⟩) os1.length oc (ptC os1.reverse) ?_ (by rw [ptC_len, List.length_reverse]) (fun h => by cases h) [] ?_ HONE.out ?_ ?_ ?_ ?_
        · rfl
        · rfl
        · rfl
        · exact MO.of_row (MM.Row.new wc 57 []) hbW (by simp) (by simp)
        · rfl
        · first | exact MM.Src.far (T := []) HSRC.out ((MM.Far.refl [] wc).alloc (.cells #[] 57)).drew (fun b hb => hb) | exact MM.Src.far (T := []) HSRC.out ((MM.Far.refl [] wc).alloc (.cells #[] 57)) (fun b hb => hb)
        · simp only [maxLen]; omega
        · omega
        · simp; omega
        intro v2 w2 hv2 hg2 hat2
        obtain ⟨A2, c2', e2⟩ := form_ w0 hv2
        subst e2
        have F2 : MM.Far [] wc w2 := ((MM.Far.refl [] wc).alloc (.cells #[] 57)).trans (MM.Far.of_grown (S := [wc.heap.size]) (a := wc.alloc (.cells #[] 57)) ⟨hg2.os, hg2.tape, hg2.output, hg2.size, hg2.block⟩ (by intro k hk _; simpa [Value.ownBlock, eq_comm] using hk)) (fun b hb hl => by
          have e : b = wc.heap.size := by simpa using hb
          omega)
        have HH2 : Hid (MM.Row w2 q 55 _) := Lib.hid (HR1.out.head.far F2 (by simp))
        have d2W := HH2.out.at (i := 2) rfl
        have e2W := HH2.out.frozen 2
        have HN := Lib.hid (HR1.out.pop (w1 := w2) (by rw [Nat.zero_add, List.nil_append] at hv2; exact hv2) F2)
        have HB2 := Lib.hid ((HB.out.far F2 (by simp)).other (p := ⟨q, 2, none⟩) (fun e => by
          have hbq := HB.out
          rw [e] at hbq
          exact HR1.out.head.ne hbq (by decide) rfl) (.slice A2 os1.length c2'))
        clear hg2 hv2 hat2 F2)
      all_goals
        go_wp2_with fail
        go_meet
        exact ⟨⟨_, HN.out⟩, HB2.out⟩
    case rest =>
      obtain ⟨⟨ov', hR2⟩, hB2⟩ := hcut
      have b0 := hB2.at (i := 0) rfl
      have b2 := hB2.at (i := 2) rfl
      have HC := Lib.hid (HP.out wc ov' hA hc rfl hR2)
      clear hR2 hB2 hwr
      go_wp2_with (go_at_call 36; refine HC.out.mono ?_; rintro e w4 ⟨rfl, h4⟩; have H4 := Lib.hid h4; clear h4)
      refine bodyPost_end (results_none rfl _ _ _) rfl ?_
      exact ⟨rfl, H4.out⟩
end
end RM6
end Go.Proofs.YtkhcaejijlaohaaDoor
